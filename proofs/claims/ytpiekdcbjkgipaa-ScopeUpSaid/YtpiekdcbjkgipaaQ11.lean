/- slices.Clone of terms, of data, of ints: a row of one's own, of the same cells. -/
import Derived.Test.YtpiekdcbjkgipaaQ10
import Derived.Laws.AppendOwn
import Derived.Lib.SliceRun
import Derived.Lib.Hide
namespace Go.Proofs.Ytpiekdcbjkgipaa
open Go.ChangeShapes Go.WideShapes Go.ChangeAt Go.RowKit Go.Deep
open TM (Tl Tm)

/-- a row's cells, as they lie where they can be read -/
def Raw (w : World) (A : Option Addr) (n sz : Nat) (cs : List Value) : Prop := cs.length = n * sz ∧ (A = none → n = 0) ∧ (∀ a, A = some a → ∀ j u, cs[j]? = some u → w.cell? (a.add j) = some u) ∧ ∀ u ∈ cs, u.oneCell' = true

set_option maxRecDepth 100000 in
set_option maxHeartbeats 2000000 in
theorem cloneT (A : Option Addr) (n c : Nat) (cs : List Value) (w : World) (h : Raw w A n 9 cs) (hn : n ≤ 1000000) :
    Calls Try.prog 32 #[.slice A n c] w fun e w' => ∃ v', e = .returned v' ∧ w'.ownsRow w.heap.size 32 9 v' n cs ∧ Below w.heap.size w w' := by
  obtain ⟨h1, h2, h3, h4⟩ := h
  cases A with
  | none =>
    obtain rfl := h2 rfl
    have hcs : cs = [] := List.eq_nil_of_length_eq_zero (by simpa using h1)
    subst hcs
    have hq : ∀ (w : World) (a : Option Addr) (n c n' c' : Nat), (binOp .eql 30 (.slice a n c) (.slice none n' c')).run Try.prog w = .ok (.bool a.isNone) w := fun w a n c n' c' => Lib.run_eql_slice_nil w _ _ a n c n' c' Try.underlying30
    clear h1 h2 h3 h4 hn
    go_enter Try.func32, Try.ntmps32
    go_wp2
    go_ret
    exact ⟨_, rfl, own_none _ _ _ _, Below.refl _ _⟩
  | some a =>
    obtain ⟨i0, hi, hz0, hz1, hz2⟩ := info_parts Try.infoTerm
    have hq : ∀ (w : World) (a : Option Addr) (n c n' c' : Nat), (binOp .eql 30 (.slice a n c) (.slice none n' c')).run Try.prog w = .ok (.bool a.isNone) w := fun w a n c n' c' => Lib.run_eql_slice_nil w _ _ a n c n' c' Try.underlying30
    have h1' := Lib.hid h1
    have h3' := Lib.hid (h3 a rfl)
    have h4' := Lib.hid h4
    have hi' := Lib.hid hi
    have hz0' := Lib.hid hz0
    have hz1' := Lib.hid hz1
    have hz2' := Lib.hid hz2
    clear h1 h2 h3 h4 hi hz0 hz1 hz2
    go_enter Try.func32, Try.ntmps32
    go_wp2_with (
      at_builtin
      refine _root_.Go.wpList_append_own _ rfl _ _ 30 rfl w.heap.size 32 i0 _ 9 136 Try.underlying30 hi'.out hz0'.out hz1'.out hz2'.out (by rfl) (by decide) _ _ _ rfl (World.ownsRow_made w #[] 0 (Nat.le_refl _) (Nat.zero_le _) (by simp)) a n c cs rfl h1'.out ?qc2 h4'.out (by unfold maxLen; omega) (by omega) (by simp) ?qk)
    case qc2 => exact fun j u hj => Lib.cell?_alloc_some _ (h3'.out j u hj)
    case qk =>
      intro v' w1 hown hgrow hnil
      clear hnil
      have hb : Below w.heap.size w w1 := ((Below.refl _ w).alloc (Nat.le_refl _) _).grown hgrow (by simp) (by intro k hk; simp [Value.ownBlock] at hk; omega)
      have hown' := Lib.hid hown
      clear hown hgrow
      go_wp2
      go_ret
      exact ⟨v', rfl, by simpa using hown'.out, hb⟩

set_option maxRecDepth 100000 in
set_option maxHeartbeats 2000000 in
theorem cloneI (A : Option Addr) (n c : Nat) (cs : List Value) (w : World) (h : Raw w A n 1 cs) (hn : n ≤ 1000000) :
    Calls Try.prog 41 #[.slice A n c] w fun e w' => ∃ v', e = .returned v' ∧ w'.ownsRow w.heap.size 3 1 v' n cs ∧ Below w.heap.size w w' := by
  obtain ⟨h1, h2, h3, h4⟩ := h
  cases A with
  | none =>
    obtain rfl := h2 rfl
    have hcs : cs = [] := List.eq_nil_of_length_eq_zero (by simpa using h1)
    subst hcs
    have hq : ∀ (w : World) (a : Option Addr) (n c n' c' : Nat), (binOp .eql 26 (.slice a n c) (.slice none n' c')).run Try.prog w = .ok (.bool a.isNone) w := fun w a n c n' c' => Lib.run_eql_slice_nil w _ _ a n c n' c' Try.underlying26
    clear h1 h2 h3 h4 hn
    go_enter Try.func41, Try.ntmps41
    go_wp2
    go_ret
    exact ⟨_, rfl, own_none _ _ _ _, Below.refl _ _⟩
  | some a =>
    obtain ⟨i0, hi, hz0, hz1, hz2⟩ := info_parts Try.infoInt
    have hq : ∀ (w : World) (a : Option Addr) (n c n' c' : Nat), (binOp .eql 26 (.slice a n c) (.slice none n' c')).run Try.prog w = .ok (.bool a.isNone) w := fun w a n c n' c' => Lib.run_eql_slice_nil w _ _ a n c n' c' Try.underlying26
    have h1' := Lib.hid h1
    have h3' := Lib.hid (h3 a rfl)
    have h4' := Lib.hid h4
    have hi' := Lib.hid hi
    have hz0' := Lib.hid hz0
    have hz1' := Lib.hid hz1
    have hz2' := Lib.hid hz2
    clear h1 h2 h3 h4 hi hz0 hz1 hz2
    go_enter Try.func41, Try.ntmps41
    go_wp2_with (
      at_builtin
      refine _root_.Go.wpList_append_own _ rfl _ _ 26 rfl w.heap.size 3 i0 _ 1 8 Try.underlying26 hi'.out hz0'.out hz1'.out hz2'.out (by rfl) (by decide) _ _ _ rfl (World.ownsRow_made w #[] 0 (Nat.le_refl _) (Nat.zero_le _) (by simp)) a n c cs rfl h1'.out ?qc2 h4'.out (by unfold maxLen; omega) (by omega) (by simp) ?qk)
    case qc2 => exact fun j u hj => Lib.cell?_alloc_some _ (h3'.out j u hj)
    case qk =>
      intro v' w1 hown hgrow hnil
      clear hnil
      have hb : Below w.heap.size w w1 := ((Below.refl _ w).alloc (Nat.le_refl _) _).grown hgrow (by simp) (by intro k hk; simp [Value.ownBlock] at hk; omega)
      have hown' := Lib.hid hown
      clear hown hgrow
      go_wp2
      go_ret
      exact ⟨v', rfl, by simpa using hown'.out, hb⟩
end Go.Proofs.Ytpiekdcbjkgipaa
