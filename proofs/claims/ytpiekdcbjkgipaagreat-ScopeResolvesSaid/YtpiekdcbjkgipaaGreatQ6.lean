/- slices.Clone of terms, of data, of ints: a row of one's own, of the same cells. -/
import Derived.Test.YtpiekdcbjkgipaaGreatQ5
import Derived.Laws.AppendOwn
import Derived.Lib.SliceRun
import Derived.Lib.Hide
import Derived.Shelf.Abstract
import Derived.Maps.OwnSet
import Derived.Test.YtpiekdcbjkgipaaGreatRows
import Derived.Test.YtpiekdcbjkgipaaGreatQ1
import Derived.WalkKit
import Derived.ProofKit
import Derived.OpenShut
import Derived.Deep.QuietTactic
import Derived.BigQuiet
import Derived.Lib.AppendIntMem
import Derived.WalkSpells
import Derived.Laws.BytesString
namespace Go.Proofs.YtpiekdcbjkgipaaGreat
open Go.ChangeShapes Go.WideShapes Go.ChangeAt Go.RowKit Go.Deep
open TM (Tl Tm)

/-- a row's cells, as they lie where they can be read -/
def Raw (w : World) (A : Option Addr) (n sz : Nat) (cs : List Value) : Prop := cs.length = n * sz ∧ (A = none → n = 0) ∧ (∀ a, A = some a → ∀ j u, cs[j]? = some u → w.cell? (a.add j) = some u) ∧ ∀ u ∈ cs, u.oneCell' = true

set_option maxRecDepth 100000 in
set_option maxHeartbeats 2000000 in
theorem cloneT (A : Option Addr) (n c : Nat) (cs : List Value) (w : World) (h : Raw w A n 9 cs) (hn : n ≤ 1000000) :
    Calls Tryz.prog 56 #[.slice A n c] w fun e w' => ∃ v', e = .returned v' ∧ w'.ownsRow w.heap.size 28 9 v' n cs ∧ Below w.heap.size w w' := by
  obtain ⟨h1, h2, h3, h4⟩ := h
  cases A with
  | none =>
    obtain rfl := h2 rfl
    have hcs : cs = [] := List.eq_nil_of_length_eq_zero (by simpa using h1)
    subst hcs
    have hq : ∀ (w : World) (a : Option Addr) (n c n' c' : Nat), (binOp .eql 26 (.slice a n c) (.slice none n' c')).run Tryz.prog w = .ok (.bool a.isNone) w := fun w a n c n' c' => Lib.run_eql_slice_nil w _ _ a n c n' c' Tryz.underlying26
    clear h1 h2 h3 h4 hn
    go_enter Tryz.func56, Tryz.ntmps56
    go_wp2
    go_ret
    exact ⟨_, rfl, own_none _ _ _ _, Below.refl _ _⟩
  | some a =>
    obtain ⟨i0, hi, hz0, hz1, hz2⟩ := info_parts Tryz.infoTerm
    have hq : ∀ (w : World) (a : Option Addr) (n c n' c' : Nat), (binOp .eql 26 (.slice a n c) (.slice none n' c')).run Tryz.prog w = .ok (.bool a.isNone) w := fun w a n c n' c' => Lib.run_eql_slice_nil w _ _ a n c n' c' Tryz.underlying26
    have h1' := Lib.hid h1
    have h3' := Lib.hid (h3 a rfl)
    have h4' := Lib.hid h4
    have hi' := Lib.hid hi
    have hz0' := Lib.hid hz0
    have hz1' := Lib.hid hz1
    have hz2' := Lib.hid hz2
    clear h1 h2 h3 h4 hi hz0 hz1 hz2
    go_enter Tryz.func56, Tryz.ntmps56
    go_wp2_with (
      at_builtin
      refine _root_.Go.wpList_append_own _ rfl _ _ 26 rfl w.heap.size 28 i0 _ 9 136 Tryz.underlying26 hi'.out hz0'.out hz1'.out hz2'.out (by rfl) (by decide) _ _ _ rfl (World.ownsRow_made w #[] 0 (Nat.le_refl _) (Nat.zero_le _) (by simp)) a n c cs rfl h1'.out ?qc2 h4'.out (by unfold maxLen; omega) (by omega) (by simp) ?qk)
    case qc2 => exact fun j u hj => Lib.cell?_alloc_some _ (h3'.out j u hj)
    case qk =>
      intro v' w1 hown hgrow hnil
      clear hnil
      have hb : Below w.heap.size w w1 := ((Below.refl _ w).alloc (Nat.le_refl _) _).grown hgrow (by simp) (by intro k hk; simp [Value.ownBlock] at hk; omega)
      have hown' := Lib.hid hown
      clear hown hgrow
      go_wp2
      go_ret
      exact ⟨v', rfl, by simpa using hown'.out, hb⟩

set_option maxRecDepth 100000 in
set_option maxHeartbeats 2000000 in
theorem cloneI (A : Option Addr) (n c : Nat) (cs : List Value) (w : World) (h : Raw w A n 1 cs) (hn : n ≤ 1000000) :
    Calls Tryz.prog 74 #[.slice A n c] w fun e w' => ∃ v', e = .returned v' ∧ w'.ownsRow w.heap.size 3 1 v' n cs ∧ Below w.heap.size w w' := by
  obtain ⟨h1, h2, h3, h4⟩ := h
  cases A with
  | none =>
    obtain rfl := h2 rfl
    have hcs : cs = [] := List.eq_nil_of_length_eq_zero (by simpa using h1)
    subst hcs
    have hq : ∀ (w : World) (a : Option Addr) (n c n' c' : Nat), (binOp .eql 22 (.slice a n c) (.slice none n' c')).run Tryz.prog w = .ok (.bool a.isNone) w := fun w a n c n' c' => Lib.run_eql_slice_nil w _ _ a n c n' c' Tryz.underlying22
    clear h1 h2 h3 h4 hn
    go_enter Tryz.func74, Tryz.ntmps74
    go_wp2
    go_ret
    exact ⟨_, rfl, own_none _ _ _ _, Below.refl _ _⟩
  | some a =>
    obtain ⟨i0, hi, hz0, hz1, hz2⟩ := info_parts Tryz.infoInt
    have hq : ∀ (w : World) (a : Option Addr) (n c n' c' : Nat), (binOp .eql 22 (.slice a n c) (.slice none n' c')).run Tryz.prog w = .ok (.bool a.isNone) w := fun w a n c n' c' => Lib.run_eql_slice_nil w _ _ a n c n' c' Tryz.underlying22
    have h1' := Lib.hid h1
    have h3' := Lib.hid (h3 a rfl)
    have h4' := Lib.hid h4
    have hi' := Lib.hid hi
    have hz0' := Lib.hid hz0
    have hz1' := Lib.hid hz1
    have hz2' := Lib.hid hz2
    clear h1 h2 h3 h4 hi hz0 hz1 hz2
    go_enter Tryz.func74, Tryz.ntmps74
    go_wp2_with (
      at_builtin
      refine _root_.Go.wpList_append_own _ rfl _ _ 22 rfl w.heap.size 3 i0 _ 1 8 Tryz.underlying22 hi'.out hz0'.out hz1'.out hz2'.out (by rfl) (by decide) _ _ _ rfl (World.ownsRow_made w #[] 0 (Nat.le_refl _) (Nat.zero_le _) (by simp)) a n c cs rfl h1'.out ?qc2 h4'.out (by unfold maxLen; omega) (by omega) (by simp) ?qk)
    case qc2 => exact fun j u hj => Lib.cell?_alloc_some _ (h3'.out j u hj)
    case qk =>
      intro v' w1 hown hgrow hnil
      clear hnil
      have hb : Below w.heap.size w w1 := ((Below.refl _ w).alloc (Nat.le_refl _) _).grown hgrow (by simp) (by intro k hk; simp [Value.ownBlock] at hk; omega)
      have hown' := Lib.hid hown
      clear hown hgrow
      go_wp2
      go_ret
      exact ⟨v', rfl, by simpa using hown'.out, hb⟩
end Go.Proofs.YtpiekdcbjkgipaaGreat

/- Package term: each, whatever it hands the parts to; Parts. -/
namespace Go.Proofs.YtpiekdcbjkgipaaGreat
open Go.ChangeShapes Go.WideShapes Go.ChangeAt Go.RowKit Go.Deep
open TM (Tl Tm)

namespace TM
section
variable {σ : Type} (step : σ → Tm → σ × Bool)
/-- what becomes of a state where some terms are visited, from the front, as long as they may be -/
def ea : Tl → σ → σ × Bool
  | .nil, s => (s, true)
  | .cons k n x ps d ks r, s => if (step s ⟨k, n, x, ps, d, ks⟩).2 then (if (ea ks (step s ⟨k, n, x, ps, d, ks⟩).1).2 then ea r (ea ks (step s ⟨k, n, x, ps, d, ks⟩).1).1 else ea ks (step s ⟨k, n, x, ps, d, ks⟩).1) else step s ⟨k, n, x, ps, d, ks⟩
def ea1 (t : Tm) (s : σ) : σ × Bool := if (step s t).2 then ea step t.ks (step s t).1 else step s t
theorem ea_at {d : Tl} {i : Nat} {x : Tm} (h : d.at_ i = some x) (s : σ) : ea step (d.dr i) s = if (ea1 step x s).2 then ea step (d.dr (i + 1)) (ea1 step x s).1 else ea1 step x s := by
  rw [Tl.dr_at d i x h, ea]
  unfold ea1
  by_cases h1 : (step s x).2 = true
  · rw [if_pos h1, if_pos h1]
  · rw [if_neg h1, if_neg h1, if_neg h1]
end
end TM

/-- what lies as a term's box lies so still -/
def KeepsT (w w' : World) : Prop := w.heap.size ≤ w'.heap.size ∧ ∀ b cs, Lies w b 28 cs → Lies w' b 28 cs
theorem KeepsT.of_below {w w' : World} (h : Below w.heap.size w w') : KeepsT w w' := ⟨h.size, fun _ _ hl => hl.below h hl.lt⟩
theorem KeepsT.trans {w w' w2 : World} (h : KeepsT w w') (k : KeepsT w' w2) : KeepsT w w2 := ⟨Nat.le_trans h.1 k.1, fun b cs hl => k.2 b cs (h.2 b cs hl)⟩
section
variable {σ : Type} (P : σ → World → Prop) (Q : σ → Nat → Prop) (w0 : World) (step : σ → Tm → σ × Bool) (g : Nat) (lb : Array Value)
/-- what is owed of a function that the parts are handed to -/
def VisOk : Prop := ∀ (t : Tm) (vp vi vk : Value) (s : σ) (m : Nat) (w : World), Below w0.heap.size w0 w → TmIn w t vp vi vk → P s w → Q s (m + 1) →
  Calls Tryz.prog g (#[tmv t vp vi vk] ++ lb) w fun e w' => e = .returned (.bool (step s t).2) ∧ P (step s t).1 w' ∧ Below w0.heap.size w0 w' ∧ KeepsT w w'
def EachN (m : Nat) (r : σ × Bool) (w : World) (e : Ending) (w' : World) : Prop := e = .returned (.bool r.2) ∧ P r.1 w' ∧ (r.2 = true → Q r.1 m) ∧ Below w0.heap.size w0 w' ∧ KeepsT w w'
def EachOk (t : Tm) : Prop := ∀ (w : World) (s : σ) (m : Nat) (vp vi vk up ui uk : Value), Below w0.heap.size w0 w → TmIn w0 t up ui uk → vp = up → vi = ui → vk = uk → P s w → Q s (TM.sz t.ks + 1 + m) →
  Calls Tryz.prog 57 #[tmv t vp vi vk, .func (.func g) #[] lb] w (EachN P Q w0 m (TM.ea1 step t s) w)
set_option maxRecDepth 100000 in
set_option maxHeartbeats 4000000 in
theorem each_step (eg : ∀ args w, (callFunc g args).run Tryz.prog w = .ok (.enter g args) w) (hP : ∀ s w w', P s w → Below w.heap.size w w' → P s w') (hQ : ∀ s t m, (step s t).2 = true → Q s (m + 1) → Q (step s t).1 m) (hV : VisOk P Q w0 step g lb)
    (k n : Int) (s : List UInt8) (ps : List Int) (d : RM.Dm) (ks : Tl) (hR : ∀ i x, ks.at_ i = some x → EachOk P Q w0 step g lb x) : EachOk P Q w0 step g lb ⟨k, n, s, ps, d, ks⟩ := by
  intro w st m vp vi vk up ui uk hb hT rfl rfl rfl hst hq
  obtain ⟨P3, p3, rfl⟩ := hT.p.read
  obtain ⟨I7, q7, rfl⟩ := hT.d.read
  obtain ⟨A1, c1, rfl⟩ := hT.k.read
  have hlen := hT.k.len
  have hTk := hT.k
  simp only at hlen hTk hq ⊢
  have hT' := Lib.hid hT
  obtain ⟨N, hN⟩ : ∃ N, ks.len = N := ⟨_, rfl⟩
  rw [hN] at hlen hTk ⊢
  have hN' := Lib.hid hN
  have hR' := Lib.hid hR
  have hP' := Lib.hid hP
  have hQ' := Lib.hid hQ
  have hV' := Lib.hid (fun (w' : World) (hb' : Below w0.heap.size w0 w') (h1 : P st w') => hV ⟨k, n, s, ps, d, ks⟩ (.slice P3 ps.length p3) (.slice I7 d.is.len q7) (.slice A1 N c1) st (TM.sz ks + m) w' hb' (by rw [← hN'.out]; exact hT'.out.below hb') h1 (by rwa [show TM.sz ks + m + 1 = TM.sz ks + 1 + m by omega]))
  have hq1 := fun h1 => hQ st ⟨k, n, s, ps, d, ks⟩ (TM.sz ks + m) h1 (by rwa [show TM.sz ks + m + 1 = TM.sz ks + 1 + m by omega])
  obtain ⟨F, hF⟩ : ∃ F, TM.ea1 step ⟨k, n, s, ps, d, ks⟩ st = F := ⟨_, rfl⟩
  rw [hF]
  have hF' := Lib.hid hF
  obtain ⟨⟨s1, b1⟩, hF0⟩ : ∃ F0, step st ⟨k, n, s, ps, d, ks⟩ = F0 := ⟨_, rfl⟩
  rw [hF0] at hV' hq1
  have hq1' := Lib.hid hq1
  have hF0' := Lib.hid hF0
  obtain ⟨L3, hL3⟩ : ∃ x, ps.length = x := ⟨_, rfl⟩
  obtain ⟨L7, hL7⟩ : ∃ x, d.is.len = x := ⟨_, rfl⟩
  unfold tmv at hV' ⊢
  simp only at hV' ⊢
  rw [hL3, hL7] at hV' ⊢
  have hL := Lies.made w 28 #[.int .i64 k, .int .i64 n, .string ⟨s.toArray⟩, .slice P3 L3 p3, .int .i64 d.k, .int .i64 d.n, .string ⟨d.s.toArray⟩, .slice I7 L7 q7, .slice A1 N c1]
  have hb1 : Below w0.heap.size w0 (w.alloc (.cells #[.int .i64 k, .int .i64 n, .string ⟨s.toArray⟩, .slice P3 L3 p3, .int .i64 d.k, .int .i64 d.n, .string ⟨d.s.toArray⟩, .slice I7 L7 q7, .slice A1 N c1] 28)) := hb.alloc hb.size _
  have hst1 := hP _ _ _ hst (Below.alloc (Below.refl _ w) (Nat.le_refl _) (.cells #[.int .i64 k, .int .i64 n, .string ⟨s.toArray⟩, .slice P3 L3 p3, .int .i64 d.k, .int .i64 d.n, .string ⟨d.s.toArray⟩, .slice I7 L7 q7, .slice A1 N c1] 28))
  have hst1' := Lib.hid hst1
  have hw := hb.size
  have hw' := Lib.hid hw
  clear hT hN hR hP hQ hV hq hq1 hF hF0 hL3 hL7 hst hst1 hw
  cases b1
  · have hE : F = (s1, false) := by
      rw [← hF'.out, TM.ea1, hF0'.out]
      simp
    subst hE
    go_enter Tryz.func57, Tryz.ntmps57
    go_wp2_with (go_at_fn g; refine (hV'.out _ hb1 hst1'.out).mono ?_; rintro e w3 ⟨rfl, hs3, hb3, hk3⟩)
    go_ret
    exact ⟨rfl, hs3, fun h => by simp at h, hb3, (KeepsT.of_below (Below.alloc (Below.refl _ w) (Nat.le_refl _) _)).trans hk3⟩
  · have hE : TM.ea step ks s1 = F := by
      rw [← hF'.out, TM.ea1, hF0'.out]
      simp
    have hE' := Lib.hid hE
    clear hE
    go_enter Tryz.func57, Tryz.ntmps57
    go_wp2_with (
      go_at_fn g
      refine (hV'.out _ hb1 hst1'.out).mono ?_
      rintro e w3 ⟨rfl, hs3, hb3, hk3⟩
      have hM := hk3.2 _ _ hL
      have y8 : w3.cell? ⟨w.heap.size, 8, none⟩ = some (.slice A1 N c1) := hM.cell 8
      have hk4 := (KeepsT.of_below (Below.alloc (Below.refl _ w) (Nat.le_refl _) (.cells #[.int .i64 k, .int .i64 n, .string ⟨s.toArray⟩, .slice P3 L3 p3, .int .i64 d.k, .int .i64 d.n, .string ⟨d.s.toArray⟩, .slice I7 L7 q7, .slice A1 N c1] 28))).trans hk3)
    go_loopw [14] (fun i wr => ∃ (j : Nat) (sj : σ), j ≤ N ∧ i = .int .i64 j ∧ Hid (TM.ea step (ks.dr j) sj = F) ∧ P sj wr ∧ Q sj (TM.sz (ks.dr j) + m) ∧ Below w0.heap.size w0 wr ∧ KeepsT w wr) (fun i _ => N - (intOf i).toNat)
    case atStart => exact ⟨0, s1, Nat.zero_le _, rfl, Lib.hid (by rw [Tl.dr_zero]; exact hE'.out), hs3, by rw [Tl.dr_zero]; exact by simpa using hq1'.out, hb3, hk4⟩
    case round =>
      obtain ⟨j, sj, hj, rfl, hEj, hsj, hqj, hbj, hkj⟩ := hrel
      have hqj' := Lib.hid hqj
      clear hL hb1 hst1' hV' y8 hM hk3 hk4 hb3 hs3 hqj
      by_cases hlt : j < N
      · obtain ⟨x, hx⟩ := ks.at_some j (by rw [hN'.out]; exact hlt)
        obtain ⟨b, o, P5, p5, I5, q5, K5, r5, rfl, hb0, p0, p1, p2, pp, p4, p55, p6, pi, pk, hT5⟩ := hTk.at_ hx
        have ce : ∀ o, wr.cell? ⟨b, o, none⟩ = w0.cell? ⟨b, o, none⟩ := fun o => hbj.cell (p := ⟨b, o, none⟩) hb0
        rw [← ce] at p0 p1 p2 pp p4 p55 p6 pi pk
        have hxs := TM.sz_at hx
        have hxe := TM.ea_at step hx sj
        have hR5 := Lib.hid (fun (w' : World) (hb' : Below w0.heap.size w0 w') (h1 : P sj w') => hR'.out j x hx w' sj (TM.sz (ks.dr (j + 1)) + m) _ _ _ _ _ _ hb' hT5 rfl rfl rfl h1 (by have := hqj'.out; rw [hxs] at this; rwa [show TM.sz x.ks + 1 + (TM.sz (ks.dr (j + 1)) + m) = TM.sz x.ks + 1 + TM.sz (ks.dr (j + 1)) + m by omega]))
        obtain ⟨⟨s6, b6⟩, hF6⟩ : ∃ F0, TM.ea1 step x sj = F0 := ⟨_, rfl⟩
        rw [hEj.out, hF6] at hxe
        rw [hF6] at hR5
        unfold tmv at hR5
        have hxe' := Lib.hid hxe
        have hP6 := Lib.hid (fun cs => hP'.out _ _ _ hsj (Below.alloc (Below.refl _ wr) (Nat.le_refl _) cs))
        clear hF6 hxe hxs hT5 hx ce
        cases b6
        · have hE6 : F = (s6, false) := by rw [hxe'.out]; simp
          subst hE6
          go_wp2_with (
            go_at_call 57
            refine (hR5.out _ (hbj.alloc hbj.size _) (hP6.out _)).mono ?_
            rintro e w7 ⟨rfl, hs7, -, hb7, hk7⟩)
          go_ret
          exact ⟨rfl, hs7, fun h => by simp at h, hb7, hkj.trans ((KeepsT.of_below (Below.alloc (Below.refl _ wr) (Nat.le_refl _) _)).trans hk7)⟩
        · go_wp2_with (
            go_at_call 57
            refine (hR5.out _ (hbj.alloc hbj.size _) (hP6.out _)).mono ?_
            rintro e w7 ⟨rfl, hs7, hq7, hb7, hk7⟩
            have hk8 := hkj.trans ((KeepsT.of_below (Below.alloc (Below.refl _ wr) (Nat.le_refl _) _)).trans hk7)
            have hq7' := Lib.hid (hq7 rfl)
            clear hq7 hk7)
          go_roundw
          case rel => exact ⟨j + 1, s6, by omega, by go_num, Lib.hid (by rw [hxe'.out]; simp), hs7, hq7'.out, hb7, hk8⟩
          case measure => simp [intOf]; omega
      · obtain rfl : j = N := by omega
        have hE6 : F = (sj, true) := by
          rw [← hEj.out, Tl.dr_end ks j (by rw [hN'.out]; exact Nat.le_refl _)]; rfl
        subst hE6
        go_wp2_with fail
        go_ret
        exact ⟨rfl, hsj, fun _ => by
          have := hqj'.out
          rwa [Tl.dr_end ks j (by rw [hN'.out]; exact Nat.le_refl _), TM.sz, Nat.zero_add] at this, hbj, hkj⟩
theorem each_any (eg : ∀ args w, (callFunc g args).run Tryz.prog w = .ok (.enter g args) w) (hP : ∀ s w w', P s w → Below w.heap.size w w' → P s w') (hQ : ∀ s t m, (step s t).2 = true → Q s (m + 1) → Q (step s t).1 m) (hV : VisOk P Q w0 step g lb) (t : Tm) : EachOk P Q w0 step g lb t :=
  Tl.all_one _ (each_step P Q w0 step g lb eg hP hQ hV) t
end

/-! ### Parts -/
namespace TM
def cs (n : Nat) (_ : Tm) : Nat × Bool := (n + 1, decide (n + 1 < 5000))
theorem ea_cs : ∀ (d : Tl) (n : Nat), n < 5000 → (ea cs d n).1 = min (n + sz d) 5000 ∧ ((ea cs d n).2 = true ↔ n + sz d < 5000)
  | .nil, n, h => by
    simp only [ea, sz, Nat.add_zero]
    exact ⟨by omega, by simp [h]⟩
  | .cons k m x ps d ks r, n, h => by
    rw [ea, show cs n ⟨k, m, x, ps, d, ks⟩ = (n + 1, decide (n + 1 < 5000)) from rfl]
    simp only [decide_eq_true_eq, sz]
    by_cases h1 : n + 1 < 5000
    · rw [if_pos h1]
      obtain ⟨a1, a2⟩ := ea_cs ks (n + 1) h1
      by_cases h2 : n + 1 + sz ks < 5000
      · have a3 : (ea cs ks (n + 1)).1 = n + 1 + sz ks := by rw [a1]; omega
        obtain ⟨b1, b2⟩ := ea_cs r _ h2
        rw [if_pos (a2.2 h2), a3, b1, b2]
        exact ⟨by omega, by omega⟩
      · rw [if_neg (fun h => h2 (a2.1 h)), a1, a2]
        exact ⟨by omega, by omega⟩
    · rw [if_neg h1]
      exact ⟨by simp only; omega, by simp; omega⟩
theorem ea1_cs (t : Tm) : (ea1 cs t 0).1 = min (sz t.ks + 1) 5000 := by
  unfold ea1
  rw [if_pos (by simp [cs])]
  show (ea cs t.ks 1).1 = _
  rw [(ea_cs t.ks 1 (by omega)).1]
  omega
end TM
set_option maxRecDepth 100000 in
theorem parts_vis (w0 : World) (c : Nat) (hc : w0.heap.size ≤ c) :
    VisOk (fun n w => Lies w c 3 [.int .i64 (n : Nat)]) (fun n _ => n < 5000) w0 TM.cs 58 #[.pointer (some ⟨c, 0, none⟩)] := by
  intro t vp vi vk n m w hb _ hP hn
  unfold tmv
  obtain ⟨N, hN⟩ : ∃ N : Int, (n : Int) = N := ⟨_, rfl⟩
  simp only [hN] at hP
  have h0 : 0 ≤ N := by omega
  have h1 : N < 5000 := by omega
  have hsz := hb.size
  have hL := hP.alloc (.cells #[.int .i64 t.k, .int .i64 t.n, .string ⟨t.s.toArray⟩, vp, .int .i64 t.d.k, .int .i64 t.d.n, .string ⟨t.d.s.toArray⟩, vi, vk] 28)
  have q0 : (w.alloc (.cells #[.int .i64 t.k, .int .i64 t.n, .string ⟨t.s.toArray⟩, vp, .int .i64 t.d.k, .int .i64 t.d.n, .string ⟨t.d.s.toArray⟩, vi, vk] 28)).cell? ⟨c, 0, none⟩ = some (.int .i64 N) := hL.cell 0
  have f0 := hL.free 0
  have hL2 := hL.stored 0 (.int .i64 (N + 1))
  have q1 : ((w.alloc (.cells #[.int .i64 t.k, .int .i64 t.n, .string ⟨t.s.toArray⟩, vp, .int .i64 t.d.k, .int .i64 t.d.n, .string ⟨t.d.s.toArray⟩, vi, vk] 28)).setCell ⟨c, 0, none⟩ (.int .i64 (N + 1))).cell? ⟨c, 0, none⟩ = some (.int .i64 (N + 1)) := hL2.cell 0
  have hk : ∀ b cs, Lies w b 28 cs → b ≠ c := fun b cs h => h.apart hP (by decide)
  have hk' := Lib.hid hk
  have hN' := Lib.hid hN
  have hL2' : Hid (Lies _ c 3 [.int .i64 (N + 1)]) := Lib.hid hL2
  have hb2 := (hb.alloc hb.size (.cells #[.int .i64 t.k, .int .i64 t.n, .string ⟨t.s.toArray⟩, vp, .int .i64 t.d.k, .int .i64 t.d.n, .string ⟨t.d.s.toArray⟩, vi, vk] 28)).setCell (p := ⟨c, 0, none⟩) hc (.int .i64 (N + 1))
  clear hN hk hL2 hL hP
  have e2 : decide (N + 1 < 5000) = decide (n + 1 < 5000) := by rw [decide_eq_decide, ← hN'.out]; omega
  have e2' := Lib.hid e2
  clear e2
  go_enter Tryz.func58, Tryz.ntmps58
  go_wp2_with fail
  go_ret
  refine ⟨?_, ?_, hb2, by simp, fun b cs hl => ?_⟩
  · simp only [TM.cs]
    rw [← e2'.out]
    rfl
  · show Lies _ c 3 [.int .i64 ((n + 1 : Nat) : Int)]
    rw [show ((n + 1 : Nat) : Int) = N + 1 by rw [← hN'.out]; simp]
    exact hL2'.out
  · exact (hl.alloc _).far (p := ⟨c, 0, none⟩) (hk'.out b cs hl) _
set_option maxRecDepth 100000 in
theorem parts_any (t : Tm) (vp vi vk : Value) (w : World) (h : TmIn w t vp vi vk) :
    Calls Tryz.prog 37 #[tmv t vp vi vk] w fun e w' => e = .returned (.int .i64 ((min (TM.sz t.ks + 1) 5000 : Nat) : Int)) ∧ Below w.heap.size w w' := by
  obtain ⟨X, hX⟩ : ∃ X, (tmv t vp vi vk) = X := ⟨_, rfl⟩
  obtain ⟨Y, hY⟩ : ∃ Y, min (TM.sz t.ks + 1) 5000 = Y := ⟨_, rfl⟩
  have hE := Lib.hid (fun (w' : World) (hb : Below w.heap.size w w') (c : Nat) (hc : w.heap.size ≤ c) (hl : Lies w' c 3 [.int .i64 ((0 : Nat) : Int)]) =>
    each_any (fun n w => Lies w c 3 [.int .i64 (n : Nat)]) (fun n _ => n < 5000) w TM.cs 58 #[.pointer (some ⟨c, 0, none⟩)] (enters_of Tryz.func58 (by kernel_rfl) rfl)
      (fun n w w' h k => h.below k h.lt) (fun n t m h _ => by simpa [TM.cs] using h) (parts_vis w c hc) t w' 0 0 vp vi vk vp vi vk hb h rfl rfl rfl hl (by omega))
  have e1 := TM.ea1_cs t
  rw [hY] at e1 ⊢
  unfold EachN at hE
  simp only [e1] at hE
  unfold tmv at hE ⊢
  clear e1 hY hX
  have hL1 := Lies.made w 28 #[.int .i64 t.k, .int .i64 t.n, .string ⟨t.s.toArray⟩, vp, .int .i64 t.d.k, .int .i64 t.d.n, .string ⟨t.d.s.toArray⟩, vi, vk]
  have hz1 : (w.alloc (.cells #[.int .i64 t.k, .int .i64 t.n, .string ⟨t.s.toArray⟩, vp, .int .i64 t.d.k, .int .i64 t.d.n, .string ⟨t.d.s.toArray⟩, vi, vk] 28)).heap.size = w.heap.size + 1 := by simp
  have hL2 := Lies.made (w.alloc (.cells #[.int .i64 t.k, .int .i64 t.n, .string ⟨t.s.toArray⟩, vp, .int .i64 t.d.k, .int .i64 t.d.n, .string ⟨t.d.s.toArray⟩, vi, vk] 28)) 3 #[.int .i64 0]
  rw [hz1] at hL2
  have hb2 : Below w.heap.size w ((w.alloc (.cells #[.int .i64 t.k, .int .i64 t.n, .string ⟨t.s.toArray⟩, vp, .int .i64 t.d.k, .int .i64 t.d.n, .string ⟨t.d.s.toArray⟩, vi, vk] 28)).alloc (.cells #[.int .i64 0] 3)) :=
    ((Below.refl _ w).alloc (Nat.le_refl _) _).alloc (by simp) _
  have hE2 := Lib.hid (hE.out _ hb2 _ (Nat.le_succ _) hL2)
  clear hE hz1 hL1 hL2 hb2 h
  go_enter Tryz.func37, Tryz.ntmps37
  go_wp2_with (
    go_at_call 57
    refine hE2.out.mono ?_
    rintro e w3 ⟨rfl, hP3, -, hb3, -⟩
    have q3 : w3.cell? ⟨w.heap.size + 1, 0, none⟩ = some (.int .i64 (Y : Nat)) := hP3.cell 0)
  go_ret
  exact ⟨rfl, hb3⟩
end Go.Proofs.YtpiekdcbjkgipaaGreat

/- A map from ints to ints that the call itself has made, by what it holds at each key (0: nothing), and how many keys it has. -/
namespace Go.Proofs.YtpiekdcbjkgipaaGreat
open Go.RowKit Go.Maps

theorem Tryz.keyLaw : Keyed Tryz.prog 3 := int_keyed Tryz.underlying3
theorem Tryz.zeroInt (w : World) : (zeroValue 3).run Tryz.prog w = .ok (.int .i64 0) w := by kernel_rfl

/-- block q is a map of n keys: at the key a it holds S a, unless that is 0 -/
def Im (w : World) (q n : Nat) (S : Int → Int) : Prop :=
  ∃ D : DataW Unit, w.ownsMap Tryz.prog 3 (plainElem Tryz.prog 3) q n D ∧ Maps.size D = n ∧ ∀ a, Maps.has D (.int .i64 a) = decide (S a ≠ 0) ∧ D.atKey (.int .i64 a) (.lit (.int .i64 0)) = .lit (.int .i64 (S a))
def setS (S : Int → Int) (a k : Int) : Int → Int := fun b => if b = a then k else S b

section
variable {w w' : World} {q n : Nat} {S : Int → Int}
theorem Im.made (w : World) : Im (w.alloc (.map #[] 0)) w.heap.size 0 (fun _ => 0) :=
  ⟨.map [], World.ownsMap_made w _ _ _, rfl, fun _ => ⟨rfl, rfl⟩⟩
theorem Im.lt (h : Im w q n S) : q < w.heap.size := by
  obtain ⟨D, h, _⟩ := h
  exact h.lt
theorem Im.turns {X : Nat → Prop} (h : Im w q n S) (k : Turns X w w') (hx : ¬ X q) : Im w' q n S := by
  have hlt := h.lt
  obtain ⟨D, ⟨es, clock, hb, r⟩, hD⟩ := h
  exact ⟨D, ⟨es, clock, (k.block q hlt hx).trans hb, r⟩, hD⟩
theorem Im.below (h : Im w q n S) (k : Below w.heap.size w w') : Im w' q n S := h.turns (Turns.of_below k (fun _ => False)) (fun h => h)
theorem Im.apart {g : Nat} {t : TypeId} {cs : List Value} (h : Im w q n S) (k : Lies w g t cs) : q ≠ g := by
  intro e
  subst e
  obtain ⟨D, ⟨es, clock, hb, _⟩, _⟩ := h
  unfold Lies at k
  rw [hb] at k
  cases k
theorem Im.not_row {e : TypeId} {B sz m : Nat} {v : Value} {cs : List Value} (h : Im w q n S) (k : w.ownsRow B e sz v m cs) : v.ownBlock ≠ some q := by
  intro hj
  rcases k.2 with ⟨rfl, _⟩ | ⟨g', cap, cur, rfl, _, hh, _⟩
  · simp [Value.ownBlock] at hj
  · have : g' = q := by simpa [Value.ownBlock] using hj
    subst this
    obtain ⟨D, ⟨es, clock, hb, _⟩, _⟩ := h
    rw [hb] at hh
    cases hh
set_option maxRecDepth 100000 in
theorem wf64 {a : Int} (h : -9223372036854775808 ≤ a ∧ a ≤ 9223372036854775807) : (Lit.int .i64 a).wf = true := by
  simp [Lit.wf, show IntKind.i64.min = -9223372036854775808 by decide +kernel, show IntKind.i64.max = 9223372036854775807 by decide +kernel]
  exact h
set_option maxRecDepth 100000 in
/-- m[b] -/
theorem Im.look (h : Im w q n S) {t : TypeId} (ht : Tryz.prog.underlying t = some (.map 3 3)) {b : Int} (hb : -9223372036854775808 ≤ b ∧ b ≤ 9223372036854775807) :
    (Instr.lookup t (.map (some q)) (.int .i64 b) false).run Tryz.prog w = .ok (.int .i64 (S b)) w := by
  obtain ⟨D, h1, h2, h3⟩ := h
  obtain ⟨c, hrun, hat, -⟩ := h1.lookup_int Tryz.keyLaw ht Tryz.underlying3 (Tryz.zeroInt w) (keyOf_int_mk Tryz.underlying3 (wf64 hb))
  rw [(h3 b).2] at hat
  injection hat with hat
  injection hat with _ hat
  rw [hrun, hat]
/-- len(m) -/
theorem Im.len (h : Im w q n S) {t : TypeId} (ht : Tryz.prog.underlying t = some (.map 3 3)) (ty : TypeId) :
    (Builtin.len_ #[t] ty #[.map (some q)]).run Tryz.prog w = .ok (.int .i64 n) w := by
  obtain ⟨D, h1, h2, h3⟩ := h
  rw [h1.len ht ty, h2]
theorem wf_inj {a b : Int} (h : a ≠ b) : Lit.int IntKind.i64 a ≠ Lit.int IntKind.i64 b := fun e => h (by injection e)
set_option maxRecDepth 100000 in
/-- m[b] = k -/
theorem Im.put (h : Im w q n S) {t : TypeId} (ht : Tryz.prog.underlying t = some (.map 3 3)) (hn : n ≤ 1000000000) {b k : Int} (hb : -9223372036854775808 ≤ b ∧ b ≤ 9223372036854775807) (hk : -9223372036854775808 ≤ k ∧ k ≤ 9223372036854775807) (h0 : k ≠ 0) :
    ∃ w', (Instr.mapUpdate t (.map (some q)) (.int .i64 b) (.int .i64 k)).run Tryz.prog w = .ok () w' ∧ Im w' q (if S b = 0 then n + 1 else n) (setS S b k) ∧ Turns (fun g => g = q) w w' := by
  obtain ⟨D, h1, h2, h3⟩ := h
  obtain ⟨w', hrun, hown, hg⟩ := h1.update Tryz.keyLaw ht (by unfold maxLen; omega) (keyOf_int_mk Tryz.underlying3 (wf64 hb)) (plainElem_int Tryz.underlying3 (wf64 hk))
  have hs : Maps.size (D.put (.int .i64 b) (.lit (.int .i64 k))) = if S b = 0 then n + 1 else n := by
    rw [size_put (h1.tidy Tryz.keyLaw), (h3 b).1, h2]
    by_cases e : S b = 0 <;> simp [e]
  refine ⟨w', hrun, ⟨D.put (.int .i64 b) (.lit (.int .i64 k)), ?_, hs, fun a => ?_⟩, (Turns.refl _ w).grown hg (fun g e _ => by injection e with e; exact e.symm)⟩
  · obtain ⟨es, clock, hbk, F, _, e⟩ := hown
    refine ⟨es, clock, hbk, F, ?_, e⟩
    rw [← hs, e]
    simp [Maps.size, length_sorted]
  · by_cases e : a = b
    · subst e
      refine ⟨by rw [has_put_same h1.isMap (k := .int .i64 a) trivial]; simp [setS, h0], by rw [atKey_put_same h1.isMap (k := .int .i64 a) trivial]; simp [setS]⟩
    · refine ⟨by rw [has_put_other (wf_inj e), (h3 a).1]; simp [setS, e], by rw [atKey_put_other (wf_inj e), (h3 a).2]; simp [setS, e]⟩
end
end Go.Proofs.YtpiekdcbjkgipaaGreat

/- What each call of package fix on two numbers gives: one contract a function. -/
namespace Go.Proofs.YtpiekdcbjkgipaaGreat
open Go.ChangeShapes Go.WideShapes Go.ChangeAt Go.RowKit

theorem ret_i {k : IntKind} {a b : Int} (h : a = b) : Ending.returned (.int k a) = .returned (.int k b) := by rw [h]
theorem ret_b {a b : Bool} (h : a = b) : Ending.returned (.bool a) = .returned (.bool b) := by rw [h]
/-- the error of that kind, or none -/
def er (k : Int) : Value := if k = 0 then .nilIface else .iface 38 (.int .i64 k)
/-- a number and an error -/
def ans (p : Int × Int) : Value := .tuple #[.int .i64 p.1, er p.2]
theorem ans_yes (n : Int) : ans (n, 0) = .tuple #[.int .i64 n, .nilIface] := rfl
theorem ans_no (n k : Int) (h : k ≠ 0) : ans (n, k) = .tuple #[.int .i64 n, .iface 38 (.int .i64 k)] := by unfold ans er; simp only [if_neg h]

theorem isNumber_any (a : Int) (w : World) :
    Calls Tryz.prog 119 #[.int .i64 a] w fun e w' => e = .returned (.bool (FM.num a)) ∧ w = w' := by
  go_enter Tryz.func119, Tryz.ntmps119
  go_wp2
  all_goals
    go_ret
    refine ⟨ret_b ?_, rfl⟩
    simp [FM.num] <;> omega

theorem bounded_any (a : Int) (w : World) :
    Calls Tryz.prog 120 #[.int .i64 a] w fun e w' => e = .returned (ans (FM.bd a)) ∧ w = w' := by
  cases h : FM.num a
  · rw [FM.bd, h, if_neg (by simp), ans_no _ _ (by omega)]
    go_enter Tryz.func120, Tryz.ntmps120
    go_wp2_with (go_at_call 119; refine (isNumber_any _ _).mono ?_; rintro e w' ⟨rfl, rfl⟩)
    go_ret2
    exact ⟨rfl, rfl⟩
  · rw [FM.bd, h, if_pos rfl, ans_yes]
    go_enter Tryz.func120, Tryz.ntmps120
    go_wp2_with (go_at_call 119; refine (isNumber_any _ _).mono ?_; rintro e w' ⟨rfl, rfl⟩)
    go_ret2
    exact ⟨rfl, rfl⟩
end Go.Proofs.YtpiekdcbjkgipaaGreat

/- What the six calls of package fix on two numbers give: one contract each. -/
namespace Go.Proofs.YtpiekdcbjkgipaaGreat
open Go.ChangeShapes Go.WideShapes Go.ChangeAt Go.RowKit

theorem both_no {a b : Int} (h : FM.num a = false ∨ FM.num b = false) (x : Int × Int) : FM.both a b x = (0, 2) := by
  unfold FM.both; rcases h with h | h <;> simp [h]
theorem both_yes {a b : Int} (ha : FM.num a = true) (hb : FM.num b = true) (x : Int × Int) : FM.both a b x = x := by
  unfold FM.both; simp [ha, hb]

theorem add_any (a b : Int) (w : World) :
    Calls Tryz.prog 115 #[.int .i64 a, .int .i64 b] w fun e w' => e = .returned (ans (FM.add a b)) ∧ w = w' := by
  cases ha : FM.num a
  · rw [FM.add, both_no (.inl ha), ans_no _ _ (by omega)]
    go_enter Tryz.func115, Tryz.ntmps115
    go_wp2_with (go_at_call 119; refine (isNumber_any _ _).mono ?_; rintro e w' ⟨rfl, rfl⟩)
    go_ret2
    exact ⟨rfl, rfl⟩
  · cases hb : FM.num b
    · rw [FM.add, both_no (.inr hb), ans_no _ _ (by omega)]
      go_enter Tryz.func115, Tryz.ntmps115
      go_wp2_with (go_at_call 119; refine (isNumber_any _ _).mono ?_; rintro e w' ⟨rfl, rfl⟩)
      go_ret2
      exact ⟨rfl, rfl⟩
    · rw [FM.add, both_yes ha hb]
      have h1 := FM.num_yes ha
      have h2 := FM.num_yes hb
      go_enter Tryz.func115, Tryz.ntmps115
      go_wp2_with (first
        | (go_at_call 119; refine (isNumber_any _ _).mono ?_; rintro e w' ⟨rfl, rfl⟩)
        | (go_at_call 120; refine (bounded_any _ _).mono ?_; rintro e w' ⟨rfl, rfl⟩; unfold ans))
      go_ret2
      exact ⟨rfl, rfl⟩

end Go.Proofs.YtpiekdcbjkgipaaGreat

/- What Mul and the divisions of package fix give. -/
namespace Go.Proofs.YtpiekdcbjkgipaaGreat
open Go.ChangeShapes Go.WideShapes Go.ChangeAt Go.RowKit

theorem mul_any (a b : Int) (w : World) :
    Calls Tryz.prog 114 #[.int .i64 a, .int .i64 b] w fun e w' => e = .returned (ans (FM.mul a b)) ∧ w = w' := by
  cases ha : FM.num a
  · rw [FM.mul, both_no (.inl ha), ans_no _ _ (by omega)]
    go_enter Tryz.func114, Tryz.ntmps114
    go_wp2_with (go_at_call 119; refine (isNumber_any _ _).mono ?_; rintro e w' ⟨rfl, rfl⟩)
    go_ret2
    exact ⟨rfl, rfl⟩
  · cases hb : FM.num b
    · rw [FM.mul, both_no (.inr hb), ans_no _ _ (by omega)]
      go_enter Tryz.func114, Tryz.ntmps114
      go_wp2_with (go_at_call 119; refine (isNumber_any _ _).mono ?_; rintro e w' ⟨rfl, rfl⟩)
      go_ret2
      exact ⟨rfl, rfl⟩
    · rw [FM.mul, both_yes ha hb]
      by_cases h0 : a = 0
      · subst h0
        rw [Int.zero_mul]
        go_enter Tryz.func114, Tryz.ntmps114
        go_wp2_with (first
          | (go_at_call 119; refine (isNumber_any _ _).mono ?_; rintro e w' ⟨rfl, rfl⟩)
          | (go_at_call 120; refine (bounded_any _ _).mono ?_; rintro e w' ⟨rfl, rfl⟩; unfold ans))
        go_ret2
        exact ⟨rfl, rfl⟩
      · have ht : (a != 0) = true := by simpa using h0
        by_cases hq : wrap64 ((wrap64 (a * b)).tdiv a) = b
        · have hz := FM.mul_way_yes a b ha hb h0 hq
          have hq' : (wrap64 ((wrap64 (a * b)).tdiv a) != b) = false := by simpa using hq
          rw [← hz]
          clear hz hq
          have h0' : a < 0 ∨ 0 < a := by omega
          go_enter Tryz.func114, Tryz.ntmps114
          go_wp2_with (first
            | (go_at_call 119; refine (isNumber_any _ _).mono ?_; rintro e w' ⟨rfl, rfl⟩)
            | (go_at_call 120; refine (bounded_any _ _).mono ?_; rintro e w' ⟨rfl, rfl⟩; unfold ans))
          go_ret2
          exact ⟨rfl, rfl⟩
        · rw [FM.mul_way_no a b ha hb h0 hq, ans_no _ _ (by omega)]
          have hq' : (wrap64 ((wrap64 (a * b)).tdiv a) != b) = true := by simpa using hq
          clear hq
          have h0' : a < 0 ∨ 0 < a := by omega
          go_enter Tryz.func114, Tryz.ntmps114
          go_wp2_with (first
            | (go_at_call 119; refine (isNumber_any _ _).mono ?_; rintro e w' ⟨rfl, rfl⟩)
            | (go_at_call 120; refine (bounded_any _ _).mono ?_; rintro e w' ⟨rfl, rfl⟩; unfold ans))
          go_ret2
          exact ⟨rfl, rfl⟩

/-- the three divisions -/
def dv (k a b : Int) : Int × Int := if k = 3 then FM.mod a b else if k = 2 then FM.rem a b else FM.quo a b
theorem dv_no {a b : Int} (k : Int) (h : FM.num a = false ∨ FM.num b = false) : dv k a b = (0, 2) := by
  unfold dv FM.mod FM.rem FM.quo; simp only [both_no h, ite_self]
theorem dv_nought {a b : Int} (k : Int) (ha : FM.num a = true) (hb : FM.num b = true) (h : b = 0) : dv k a b = (0, 12) := by
  unfold dv FM.mod FM.rem FM.quo; simp only [both_yes ha hb, if_pos h, ite_self]
end Go.Proofs.YtpiekdcbjkgipaaGreat

/- What the document's own answers for layer 2 are on two numbers: one contract each. -/
namespace Go.Proofs.YtpiekdcbjkgipaaGreat
open Go.ChangeShapes Go.WideShapes Go.ChangeAt Go.RowKit

/-- a number and the kind of an error -/
def two (p : Int × Int) : Value := .tuple #[.int .i64 p.1, .int .i64 p.2]

end Go.Proofs.YtpiekdcbjkgipaaGreat

/- What package fix's Text and the document's own give: the same numeral. -/
namespace Go.Proofs.YtpiekdcbjkgipaaGreat
open Go.ChangeShapes Go.WideShapes Go.ChangeAt Go.RowKit

/-- the table of the library's that Itoa reads stands -/
def Tab (w : World) : Prop := Lib.TabIs Tryz.prog w "internal/strconv.uint64pow10" .u64 Lib.pow10Tab
/-- the world went on: what was there stands -/
def Went (w w' : World) : Prop := Below w.heap.size w w'
theorem Went.refl (w : World) : Went w w := Below.refl _ _
theorem Went.trans {a b c : World} (h : Went a b) (k : Went b c) : Went a c := Below.trans h (Below.mono k (Below.size h))
theorem Went.same {a b c : World} (h : Went a b) (k : b = c) : Went a c := k ▸ h
theorem Went.of_drew {w w' : World} (h : Went w.drew w') : Went w w' := ⟨h.os, h.tape, h.output, h.size, h.block⟩
theorem Tab.on {w w' : World} (h : Tab w) (k : Went w w') : Tab w' := (Lib.tabBelow_of_tabIs h) w' k

/-- one digit more ahead -/
theorem digit_eq (v : Nat) : (48 : UInt8) + UInt8.ofNat (v % 10) = UInt8.ofNat (48 + v % 10) := by
  rw [UInt8.ofNat_add]; rfl
theorem push_data (c : UInt8) (b : ByteArray) : (ByteArray.empty.push c ++ b).data.toList = c :: b.data.toList := by
  rw [ByteArray.data_append]; simp [ByteArray.empty, ByteArray.emptyWithCapacity]; rfl
theorem txt_step {u v : Nat} {b : ByteArray} (h : ¬ v < 10) (H : Lib.decDigits u = Lib.decDigits v ++ b.data.toList) :
    Lib.decDigits u = Lib.decDigits (v / 10) ++ (ByteArray.empty.push (48 + UInt8.ofNat (v % 10)) ++ b).data.toList := by
  rw [H, Lib.decDigits, dif_neg h, push_data, digit_eq]; simp
theorem txt_end {u v : Nat} {b : ByteArray} (h : v < 10) (H : Lib.decDigits u = Lib.decDigits v ++ b.data.toList) :
    Lib.decDigits u = (ByteArray.empty.push (48 + UInt8.ofNat (v % 10)) ++ b).data.toList := by
  rw [H, Lib.decDigits, dif_pos h, push_data, digit_eq, Nat.mod_eq_of_lt h]; simp
theorem txt_len {u : Nat} (hu : (u : Int) ≤ 9223372036854775808) {l : List UInt8} {b : ByteArray} (H : Lib.decDigits u = l ++ b.data.toList) : b.size ≤ 20 := by
  have h1 := (FM.dec_len u (by omega)).2
  rw [H, List.length_append] at h1
  have : b.data.toList.length = b.size := by simp
  omega
theorem itoa_minus {n : Int} {u : Nat} (hn : n < 0) (hu : n.natAbs = u) {b : ByteArray} (h : Lib.decDigits u = b.data.toList) : (⟨#[45]⟩ ++ b : ByteArray) = ⟨(Lib.itoa n).toArray⟩ := by
  apply bytes_inj
  rw [Lib.itoa, if_pos hn, hu, h, ByteArray.data_append]; simp
theorem itoa_plain {n : Int} {u : Nat} (hn : ¬ n < 0) (hu : n.toNat = u) {b : ByteArray} (h : Lib.decDigits u = b.data.toList) : b = ⟨(Lib.itoa n).toArray⟩ := by
  apply bytes_inj
  rw [Lib.itoa, if_neg hn, hu, h]
theorem ret_s {a b : ByteArray} (h : a = b) : Ending.returned (.string a) = .returned (.string b) := by rw [h]

end Go.Proofs.YtpiekdcbjkgipaaGreat
