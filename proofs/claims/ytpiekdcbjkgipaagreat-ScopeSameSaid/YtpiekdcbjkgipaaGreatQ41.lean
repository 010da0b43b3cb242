/- The reference of layer 10: right, a term where some locals are bound. -/
import Derived.Test.YtpiekdcbjkgipaaGreatQ37
import Derived.Test.YtpiekdcbjkgipaaGreatQ11
import Derived.Deep.Cut
import Derived.Deep.CutRange
import Derived.Deep.CutBlock
namespace Go.Proofs.YtpiekdcbjkgipaaGreat
open Go.ChangeShapes Go.WideShapes Go.ChangeAt Go.RowKit Go.Deep
open TM (Tl Tm)

namespace TM
theorem fit_bool (bd : List Int) (k n : Int) (s : List UInt8) (ps : List Int) (d : RM.Dm) (ks : Tl) (N L3 : Nat) (hN : ks.len = N) (hL : ps.length = L3) :
    fit bd ⟨k, n, s, ps, d, ks⟩ = if k = 1 then ((N : Int) == 0) && s.isEmpty && ((L3 : Int) == 0) && (n == 0) && quo d
      else if k = 2 then ((N : Int) == 0) && s.isEmpty && ((L3 : Int) == 0) && bd.contains n && nod d
      else if k = 3 then ((N : Int) == 0) && ((L3 : Int) == 0) && (n == 0) && LM.sym s && nod d
      else if k = 4 then ((N : Int) == 1) && s.isEmpty && ((L3 : Int) == 0) && bd.contains n && nod d
      else if k = 5 ∨ k = 6 then ((N : Int) == 1) && ((L3 : Int) == 0) && (n == 0) && LM.sym s && nod d
      else if k = 7 then (((N : Int) == 2) || ((N : Int) == 3)) && s.isEmpty && ((L3 : Int) == 0) && (n == 0) && nod d
      else if k = 8 then ((N : Int) == 1) && s.isEmpty && decide ((L3 : Int) ≤ 24) && ((n == 0) || ((n == 1) && !((L3 : Int) == 0))) && nod d
      else if k = 9 then decide (1 ≤ (N : Int)) && s.isEmpty && ((L3 : Int) == 0) && (n == 0) && nod d
      else if k = 10 then decide (1 ≤ (N : Int)) && decide ((N : Int) ≤ 29) && s.isEmpty && ((L3 : Int) == 0) && (n == 0) && nod d
      else false := by
  have aN : ∀ m : Nat, decide (ks.len = m) = ((N : Int) == (m : Int)) := fun m => by
    rw [hN, Bool.eq_iff_iff]; simp; omega
  have a0 := aN 0
  have a1 := aN 1
  have a2 := aN 2
  have a3 := aN 3
  have a6 : decide (s = []) = s.isEmpty := by cases s <;> simp
  have a8 : decide (ps = []) = ((L3 : Int) == 0) := by
    rw [← hL, Bool.eq_iff_iff]
    cases ps <;> simp <;> omega
  have a9 : ∀ m : Int, decide (n = m) = (n == m) := fun m => by rw [Bool.eq_iff_iff]; simp
  have aL : decide (ps.length ≤ 24) = decide ((L3 : Int) ≤ 24) := by
    rw [hL]; exact decide_eq_decide.2 (by omega)
  have b1 : decide (1 ≤ ks.len) = decide (1 ≤ (N : Int)) := by rw [hN]; exact decide_eq_decide.2 (by omega)
  have b2 : decide (ks.len ≤ 29) = decide ((N : Int) ≤ 29) := by rw [hN]; exact decide_eq_decide.2 (by omega)
  unfold fit
  simp only [a0, a1, a2, a3, a6, a8, a9, aL, b1, b2]
  rfl
theorem fit_params {bd : List Int} {t : Tm} (h : fit bd t = true) (hk : ¬ t.k = 8) : t.ps = [] := by
  unfold fit at h
  by_cases h1 : t.k = 1
  · rw [if_pos h1] at h; simp at h; exact h.1.1.2
  rw [if_neg h1] at h
  by_cases h2 : t.k = 2
  · rw [if_pos h2] at h; simp at h; exact h.1.1.2
  rw [if_neg h2] at h
  by_cases h3 : t.k = 3
  · rw [if_pos h3] at h; simp at h; exact h.1.1.1.2
  rw [if_neg h3] at h
  by_cases h4 : t.k = 4
  · rw [if_pos h4] at h; simp at h; exact h.1.1.2
  rw [if_neg h4] at h
  by_cases h5 : t.k = 5 ∨ t.k = 6
  · rw [if_pos h5] at h; simp at h; exact h.1.1.1.2
  rw [if_neg h5] at h
  by_cases h7 : t.k = 7
  · rw [if_pos h7] at h; simp at h; exact h.1.1.2
  rw [if_neg h7, if_neg hk] at h
  by_cases h9 : t.k = 9
  · rw [if_pos h9] at h; simp at h; exact h.1.1.2
  rw [if_neg h9] at h
  by_cases h10 : t.k = 10
  · rw [if_pos h10] at h; simp at h; exact h.1.1.2
  rw [if_neg h10] at h
  simp at h
end TM
def RgOk (t : Tm) : Prop := ∀ (w : World) (vb : Value) (bd : List Int) (vp vi vk : Value), TmIn w t vp vi vk → PIn w vb bd → bd.length + (t.ps ++ TM.prs t.ks).length ≤ 1000000 →
  Calls Tryz.prog 27 #[tmv t vp vi vk, vb] w fun e w' => e = .returned (.bool (TM.ok1 bd t)) ∧ Went w w'
theorem TM.rg_fin {ok dt F : Bool} {bd2 bdp : List Int} {ks : Tl} (h : (ok && dt) = F) (hp : F = true → bd2 = bdp) : (ok && TM.rtl bd2 ks && dt) = (F && TM.rtl bdp ks) := by
  cases F
  · cases ok <;> cases dt <;> simp_all
  · have := hp rfl
    subst this
    cases ok <;> cases dt <;> simp_all
end Go.Proofs.YtpiekdcbjkgipaaGreat
