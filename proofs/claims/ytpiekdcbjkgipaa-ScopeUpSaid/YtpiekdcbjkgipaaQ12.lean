/- Package term: each, whatever it hands the parts to; Parts. -/
import Derived.Test.YtpiekdcbjkgipaaQ10
import Derived.Lib.Hide
import Derived.Shelf.Abstract
namespace Go.Proofs.Ytpiekdcbjkgipaa
open Go.ChangeShapes Go.WideShapes Go.ChangeAt Go.RowKit Go.Deep
open TM (Tl Tm)

namespace TM
section
variable {σ : Type} (step : σ → Tm → σ × Bool)
/-- what becomes of a state where some terms are visited, from the front, as long as they may be -/
def ea : Tl → σ → σ × Bool
  | .nil, s => (s, true)
  | .cons k n x ps d ks r, s => if (step s ⟨k, n, x, ps, d, ks⟩).2 then (if (ea ks (step s ⟨k, n, x, ps, d, ks⟩).1).2 then ea r (ea ks (step s ⟨k, n, x, ps, d, ks⟩).1).1 else ea ks (step s ⟨k, n, x, ps, d, ks⟩).1) else step s ⟨k, n, x, ps, d, ks⟩
def ea1 (t : Tm) (s : σ) : σ × Bool := if (step s t).2 then ea step t.ks (step s t).1 else step s t
theorem ea_at {d : Tl} {i : Nat} {x : Tm} (h : d.at_ i = some x) (s : σ) : ea step (d.dr i) s = if (ea1 step x s).2 then ea step (d.dr (i + 1)) (ea1 step x s).1 else ea1 step x s := by
  rw [Tl.dr_at d i x h, ea]
  unfold ea1
  by_cases h1 : (step s x).2 = true
  · rw [if_pos h1, if_pos h1]
  · rw [if_neg h1, if_neg h1, if_neg h1]
end
end TM

/-- what lies as a term's box lies so still -/
def KeepsT (w w' : World) : Prop := w.heap.size ≤ w'.heap.size ∧ ∀ b cs, Lies w b 32 cs → Lies w' b 32 cs
theorem KeepsT.of_below {w w' : World} (h : Below w.heap.size w w') : KeepsT w w' := ⟨h.size, fun _ _ hl => hl.below h hl.lt⟩
theorem KeepsT.trans {w w' w2 : World} (h : KeepsT w w') (k : KeepsT w' w2) : KeepsT w w2 := ⟨Nat.le_trans h.1 k.1, fun b cs hl => k.2 b cs (h.2 b cs hl)⟩
section
variable {σ : Type} (P : σ → World → Prop) (Q : σ → Nat → Prop) (w0 : World) (step : σ → Tm → σ × Bool) (g : Nat) (lb : Array Value)
/-- what is owed of a function that the parts are handed to -/
def VisOk : Prop := ∀ (t : Tm) (vp vi vk : Value) (s : σ) (m : Nat) (w : World), Below w0.heap.size w0 w → TmIn w t vp vi vk → P s w → Q s (m + 1) →
  Calls Try.prog g (#[tmv t vp vi vk] ++ lb) w fun e w' => e = .returned (.bool (step s t).2) ∧ P (step s t).1 w' ∧ Below w0.heap.size w0 w' ∧ KeepsT w w'
def EachN (m : Nat) (r : σ × Bool) (w : World) (e : Ending) (w' : World) : Prop := e = .returned (.bool r.2) ∧ P r.1 w' ∧ (r.2 = true → Q r.1 m) ∧ Below w0.heap.size w0 w' ∧ KeepsT w w'
def EachOk (t : Tm) : Prop := ∀ (w : World) (s : σ) (m : Nat) (vp vi vk up ui uk : Value), Below w0.heap.size w0 w → TmIn w0 t up ui uk → vp = up → vi = ui → vk = uk → P s w → Q s (TM.sz t.ks + 1 + m) →
  Calls Try.prog 22 #[tmv t vp vi vk, .func (.func g) #[] lb] w (EachN P Q w0 m (TM.ea1 step t s) w)
set_option maxRecDepth 100000 in
set_option maxHeartbeats 4000000 in
theorem each_step (eg : ∀ args w, (callFunc g args).run Try.prog w = .ok (.enter g args) w) (hP : ∀ s w w', P s w → Below w.heap.size w w' → P s w') (hQ : ∀ s t m, (step s t).2 = true → Q s (m + 1) → Q (step s t).1 m) (hV : VisOk P Q w0 step g lb)
    (k n : Int) (s : List UInt8) (ps : List Int) (d : RM.Dm) (ks : Tl) (hR : ∀ i x, ks.at_ i = some x → EachOk P Q w0 step g lb x) : EachOk P Q w0 step g lb ⟨k, n, s, ps, d, ks⟩ := by
  intro w st m vp vi vk up ui uk hb hT rfl rfl rfl hst hq
  obtain ⟨P3, p3, rfl⟩ := hT.p.read
  obtain ⟨I7, q7, rfl⟩ := hT.d.read
  obtain ⟨A1, c1, rfl⟩ := hT.k.read
  have hlen := hT.k.len
  have hTk := hT.k
  simp only at hlen hTk hq ⊢
  have hT' := Lib.hid hT
  obtain ⟨N, hN⟩ : ∃ N, ks.len = N := ⟨_, rfl⟩
  rw [hN] at hlen hTk ⊢
  have hN' := Lib.hid hN
  have hR' := Lib.hid hR
  have hP' := Lib.hid hP
  have hQ' := Lib.hid hQ
  have hV' := Lib.hid (fun (w' : World) (hb' : Below w0.heap.size w0 w') (h1 : P st w') => hV ⟨k, n, s, ps, d, ks⟩ (.slice P3 ps.length p3) (.slice I7 d.is.len q7) (.slice A1 N c1) st (TM.sz ks + m) w' hb' (by rw [← hN'.out]; exact hT'.out.below hb') h1 (by rwa [show TM.sz ks + m + 1 = TM.sz ks + 1 + m by omega]))
  have hq1 := fun h1 => hQ st ⟨k, n, s, ps, d, ks⟩ (TM.sz ks + m) h1 (by rwa [show TM.sz ks + m + 1 = TM.sz ks + 1 + m by omega])
  obtain ⟨F, hF⟩ : ∃ F, TM.ea1 step ⟨k, n, s, ps, d, ks⟩ st = F := ⟨_, rfl⟩
  rw [hF]
  have hF' := Lib.hid hF
  obtain ⟨⟨s1, b1⟩, hF0⟩ : ∃ F0, step st ⟨k, n, s, ps, d, ks⟩ = F0 := ⟨_, rfl⟩
  rw [hF0] at hV' hq1
  have hq1' := Lib.hid hq1
  have hF0' := Lib.hid hF0
  obtain ⟨L3, hL3⟩ : ∃ x, ps.length = x := ⟨_, rfl⟩
  obtain ⟨L7, hL7⟩ : ∃ x, d.is.len = x := ⟨_, rfl⟩
  unfold tmv at hV' ⊢
  simp only at hV' ⊢
  rw [hL3, hL7] at hV' ⊢
  have hL := Lies.made w 32 #[.int .i64 k, .int .i64 n, .string ⟨s.toArray⟩, .slice P3 L3 p3, .int .i64 d.k, .int .i64 d.n, .string ⟨d.s.toArray⟩, .slice I7 L7 q7, .slice A1 N c1]
  have hb1 : Below w0.heap.size w0 (w.alloc (.cells #[.int .i64 k, .int .i64 n, .string ⟨s.toArray⟩, .slice P3 L3 p3, .int .i64 d.k, .int .i64 d.n, .string ⟨d.s.toArray⟩, .slice I7 L7 q7, .slice A1 N c1] 32)) := hb.alloc hb.size _
  have hst1 := hP _ _ _ hst (Below.alloc (Below.refl _ w) (Nat.le_refl _) (.cells #[.int .i64 k, .int .i64 n, .string ⟨s.toArray⟩, .slice P3 L3 p3, .int .i64 d.k, .int .i64 d.n, .string ⟨d.s.toArray⟩, .slice I7 L7 q7, .slice A1 N c1] 32))
  have hst1' := Lib.hid hst1
  have hw := hb.size
  have hw' := Lib.hid hw
  clear hT hN hR hP hQ hV hq hq1 hF hF0 hL3 hL7 hst hst1 hw
  cases b1
  · have hE : F = (s1, false) := by
      rw [← hF'.out, TM.ea1, hF0'.out]
      simp
    subst hE
    go_enter Try.func22, Try.ntmps22
    go_wp2_with (go_at_fn g; refine (hV'.out _ hb1 hst1'.out).mono ?_; rintro e w3 ⟨rfl, hs3, hb3, hk3⟩)
    go_ret
    exact ⟨rfl, hs3, fun h => by simp at h, hb3, (KeepsT.of_below (Below.alloc (Below.refl _ w) (Nat.le_refl _) _)).trans hk3⟩
  · have hE : TM.ea step ks s1 = F := by
      rw [← hF'.out, TM.ea1, hF0'.out]
      simp
    have hE' := Lib.hid hE
    clear hE
    go_enter Try.func22, Try.ntmps22
    go_wp2_with (
      go_at_fn g
      refine (hV'.out _ hb1 hst1'.out).mono ?_
      rintro e w3 ⟨rfl, hs3, hb3, hk3⟩
      have hM := hk3.2 _ _ hL
      have y8 : w3.cell? ⟨w.heap.size, 8, none⟩ = some (.slice A1 N c1) := hM.cell 8
      have hk4 := (KeepsT.of_below (Below.alloc (Below.refl _ w) (Nat.le_refl _) (.cells #[.int .i64 k, .int .i64 n, .string ⟨s.toArray⟩, .slice P3 L3 p3, .int .i64 d.k, .int .i64 d.n, .string ⟨d.s.toArray⟩, .slice I7 L7 q7, .slice A1 N c1] 32))).trans hk3)
    go_loopw [14] (fun i wr => ∃ (j : Nat) (sj : σ), j ≤ N ∧ i = .int .i64 j ∧ Hid (TM.ea step (ks.dr j) sj = F) ∧ P sj wr ∧ Q sj (TM.sz (ks.dr j) + m) ∧ Below w0.heap.size w0 wr ∧ KeepsT w wr) (fun i _ => N - (intOf i).toNat)
    case atStart => exact ⟨0, s1, Nat.zero_le _, rfl, Lib.hid (by rw [Tl.dr_zero]; exact hE'.out), hs3, by rw [Tl.dr_zero]; exact by simpa using hq1'.out, hb3, hk4⟩
    case round =>
      obtain ⟨j, sj, hj, rfl, hEj, hsj, hqj, hbj, hkj⟩ := hrel
      have hqj' := Lib.hid hqj
      clear hL hb1 hst1' hV' y8 hM hk3 hk4 hb3 hs3 hqj
      by_cases hlt : j < N
      · obtain ⟨x, hx⟩ := ks.at_some j (by rw [hN'.out]; exact hlt)
        obtain ⟨b, o, P5, p5, I5, q5, K5, r5, rfl, hb0, p0, p1, p2, pp, p4, p55, p6, pi, pk, hT5⟩ := hTk.at_ hx
        have ce : ∀ o, wr.cell? ⟨b, o, none⟩ = w0.cell? ⟨b, o, none⟩ := fun o => hbj.cell (p := ⟨b, o, none⟩) hb0
        rw [← ce] at p0 p1 p2 pp p4 p55 p6 pi pk
        have hxs := TM.sz_at hx
        have hxe := TM.ea_at step hx sj
        have hR5 := Lib.hid (fun (w' : World) (hb' : Below w0.heap.size w0 w') (h1 : P sj w') => hR'.out j x hx w' sj (TM.sz (ks.dr (j + 1)) + m) _ _ _ _ _ _ hb' hT5 rfl rfl rfl h1 (by have := hqj'.out; rw [hxs] at this; rwa [show TM.sz x.ks + 1 + (TM.sz (ks.dr (j + 1)) + m) = TM.sz x.ks + 1 + TM.sz (ks.dr (j + 1)) + m by omega]))
        obtain ⟨⟨s6, b6⟩, hF6⟩ : ∃ F0, TM.ea1 step x sj = F0 := ⟨_, rfl⟩
        rw [hEj.out, hF6] at hxe
        rw [hF6] at hR5
        unfold tmv at hR5
        have hxe' := Lib.hid hxe
        have hP6 := Lib.hid (fun cs => hP'.out _ _ _ hsj (Below.alloc (Below.refl _ wr) (Nat.le_refl _) cs))
        clear hF6 hxe hxs hT5 hx ce
        cases b6
        · have hE6 : F = (s6, false) := by rw [hxe'.out]; simp
          subst hE6
          go_wp2_with (
            go_at_call 22
            refine (hR5.out _ (hbj.alloc hbj.size _) (hP6.out _)).mono ?_
            rintro e w7 ⟨rfl, hs7, -, hb7, hk7⟩)
          go_ret
          exact ⟨rfl, hs7, fun h => by simp at h, hb7, hkj.trans ((KeepsT.of_below (Below.alloc (Below.refl _ wr) (Nat.le_refl _) _)).trans hk7)⟩
        · go_wp2_with (
            go_at_call 22
            refine (hR5.out _ (hbj.alloc hbj.size _) (hP6.out _)).mono ?_
            rintro e w7 ⟨rfl, hs7, hq7, hb7, hk7⟩
            have hk8 := hkj.trans ((KeepsT.of_below (Below.alloc (Below.refl _ wr) (Nat.le_refl _) _)).trans hk7)
            have hq7' := Lib.hid (hq7 rfl)
            clear hq7 hk7)
          go_roundw
          case rel => exact ⟨j + 1, s6, by omega, by go_num, Lib.hid (by rw [hxe'.out]; simp), hs7, hq7'.out, hb7, hk8⟩
          case measure => simp [intOf]; omega
      · obtain rfl : j = N := by omega
        have hE6 : F = (sj, true) := by
          rw [← hEj.out, Tl.dr_end ks j (by rw [hN'.out]; exact Nat.le_refl _)]; rfl
        subst hE6
        go_wp2_with fail
        go_ret
        exact ⟨rfl, hsj, fun _ => by
          have := hqj'.out
          rwa [Tl.dr_end ks j (by rw [hN'.out]; exact Nat.le_refl _), TM.sz, Nat.zero_add] at this, hbj, hkj⟩
theorem each_any (eg : ∀ args w, (callFunc g args).run Try.prog w = .ok (.enter g args) w) (hP : ∀ s w w', P s w → Below w.heap.size w w' → P s w') (hQ : ∀ s t m, (step s t).2 = true → Q s (m + 1) → Q (step s t).1 m) (hV : VisOk P Q w0 step g lb) (t : Tm) : EachOk P Q w0 step g lb t :=
  Tl.all_one _ (each_step P Q w0 step g lb eg hP hQ hV) t
end

/-! ### Parts -/
namespace TM
def cs (n : Nat) (_ : Tm) : Nat × Bool := (n + 1, decide (n + 1 < 5000))
theorem ea_cs : ∀ (d : Tl) (n : Nat), n < 5000 → (ea cs d n).1 = min (n + sz d) 5000 ∧ ((ea cs d n).2 = true ↔ n + sz d < 5000)
  | .nil, n, h => by
    simp only [ea, sz, Nat.add_zero]
    exact ⟨by omega, by simp [h]⟩
  | .cons k m x ps d ks r, n, h => by
    rw [ea, show cs n ⟨k, m, x, ps, d, ks⟩ = (n + 1, decide (n + 1 < 5000)) from rfl]
    simp only [decide_eq_true_eq, sz]
    by_cases h1 : n + 1 < 5000
    · rw [if_pos h1]
      obtain ⟨a1, a2⟩ := ea_cs ks (n + 1) h1
      by_cases h2 : n + 1 + sz ks < 5000
      · have a3 : (ea cs ks (n + 1)).1 = n + 1 + sz ks := by rw [a1]; omega
        obtain ⟨b1, b2⟩ := ea_cs r _ h2
        rw [if_pos (a2.2 h2), a3, b1, b2]
        exact ⟨by omega, by omega⟩
      · rw [if_neg (fun h => h2 (a2.1 h)), a1, a2]
        exact ⟨by omega, by omega⟩
    · rw [if_neg h1]
      exact ⟨by simp only; omega, by simp; omega⟩
theorem ea1_cs (t : Tm) : (ea1 cs t 0).1 = min (sz t.ks + 1) 5000 := by
  unfold ea1
  rw [if_pos (by simp [cs])]
  show (ea cs t.ks 1).1 = _
  rw [(ea_cs t.ks 1 (by omega)).1]
  omega
end TM
set_option maxRecDepth 100000 in
theorem parts_vis (w0 : World) (c : Nat) (hc : w0.heap.size ≤ c) :
    VisOk (fun n w => Lies w c 3 [.int .i64 (n : Nat)]) (fun n _ => n < 5000) w0 TM.cs 23 #[.pointer (some ⟨c, 0, none⟩)] := by
  intro t vp vi vk n m w hb _ hP hn
  unfold tmv
  obtain ⟨N, hN⟩ : ∃ N : Int, (n : Int) = N := ⟨_, rfl⟩
  simp only [hN] at hP
  have h0 : 0 ≤ N := by omega
  have h1 : N < 5000 := by omega
  have hsz := hb.size
  have hL := hP.alloc (.cells #[.int .i64 t.k, .int .i64 t.n, .string ⟨t.s.toArray⟩, vp, .int .i64 t.d.k, .int .i64 t.d.n, .string ⟨t.d.s.toArray⟩, vi, vk] 32)
  have q0 : (w.alloc (.cells #[.int .i64 t.k, .int .i64 t.n, .string ⟨t.s.toArray⟩, vp, .int .i64 t.d.k, .int .i64 t.d.n, .string ⟨t.d.s.toArray⟩, vi, vk] 32)).cell? ⟨c, 0, none⟩ = some (.int .i64 N) := hL.cell 0
  have f0 := hL.free 0
  have hL2 := hL.stored 0 (.int .i64 (N + 1))
  have q1 : ((w.alloc (.cells #[.int .i64 t.k, .int .i64 t.n, .string ⟨t.s.toArray⟩, vp, .int .i64 t.d.k, .int .i64 t.d.n, .string ⟨t.d.s.toArray⟩, vi, vk] 32)).setCell ⟨c, 0, none⟩ (.int .i64 (N + 1))).cell? ⟨c, 0, none⟩ = some (.int .i64 (N + 1)) := hL2.cell 0
  have hk : ∀ b cs, Lies w b 32 cs → b ≠ c := fun b cs h => h.apart hP (by decide)
  have hk' := Lib.hid hk
  have hN' := Lib.hid hN
  have hL2' : Hid (Lies _ c 3 [.int .i64 (N + 1)]) := Lib.hid hL2
  have hb2 := (hb.alloc hb.size (.cells #[.int .i64 t.k, .int .i64 t.n, .string ⟨t.s.toArray⟩, vp, .int .i64 t.d.k, .int .i64 t.d.n, .string ⟨t.d.s.toArray⟩, vi, vk] 32)).setCell (p := ⟨c, 0, none⟩) hc (.int .i64 (N + 1))
  clear hN hk hL2 hL hP
  have e2 : decide (N + 1 < 5000) = decide (n + 1 < 5000) := by rw [decide_eq_decide, ← hN'.out]; omega
  have e2' := Lib.hid e2
  clear e2
  go_enter Try.func23, Try.ntmps23
  go_wp2_with fail
  go_ret
  refine ⟨?_, ?_, hb2, by simp, fun b cs hl => ?_⟩
  · simp only [TM.cs]
    rw [← e2'.out]
    rfl
  · show Lies _ c 3 [.int .i64 ((n + 1 : Nat) : Int)]
    rw [show ((n + 1 : Nat) : Int) = N + 1 by rw [← hN'.out]; simp]
    exact hL2'.out
  · exact (hl.alloc _).far (p := ⟨c, 0, none⟩) (hk'.out b cs hl) _
set_option maxRecDepth 100000 in
theorem parts_any (t : Tm) (vp vi vk : Value) (w : World) (h : TmIn w t vp vi vk) :
    Calls Try.prog 11 #[tmv t vp vi vk] w fun e w' => e = .returned (.int .i64 ((min (TM.sz t.ks + 1) 5000 : Nat) : Int)) ∧ Below w.heap.size w w' := by
  obtain ⟨X, hX⟩ : ∃ X, (tmv t vp vi vk) = X := ⟨_, rfl⟩
  obtain ⟨Y, hY⟩ : ∃ Y, min (TM.sz t.ks + 1) 5000 = Y := ⟨_, rfl⟩
  have hE := Lib.hid (fun (w' : World) (hb : Below w.heap.size w w') (c : Nat) (hc : w.heap.size ≤ c) (hl : Lies w' c 3 [.int .i64 ((0 : Nat) : Int)]) =>
    each_any (fun n w => Lies w c 3 [.int .i64 (n : Nat)]) (fun n _ => n < 5000) w TM.cs 23 #[.pointer (some ⟨c, 0, none⟩)] (enters_of Try.func23 (by kernel_rfl) rfl)
      (fun n w w' h k => h.below k h.lt) (fun n t m h _ => by simpa [TM.cs] using h) (parts_vis w c hc) t w' 0 0 vp vi vk vp vi vk hb h rfl rfl rfl hl (by omega))
  have e1 := TM.ea1_cs t
  rw [hY] at e1 ⊢
  unfold EachN at hE
  simp only [e1] at hE
  unfold tmv at hE ⊢
  clear e1 hY hX
  have hL1 := Lies.made w 32 #[.int .i64 t.k, .int .i64 t.n, .string ⟨t.s.toArray⟩, vp, .int .i64 t.d.k, .int .i64 t.d.n, .string ⟨t.d.s.toArray⟩, vi, vk]
  have hz1 : (w.alloc (.cells #[.int .i64 t.k, .int .i64 t.n, .string ⟨t.s.toArray⟩, vp, .int .i64 t.d.k, .int .i64 t.d.n, .string ⟨t.d.s.toArray⟩, vi, vk] 32)).heap.size = w.heap.size + 1 := by simp
  have hL2 := Lies.made (w.alloc (.cells #[.int .i64 t.k, .int .i64 t.n, .string ⟨t.s.toArray⟩, vp, .int .i64 t.d.k, .int .i64 t.d.n, .string ⟨t.d.s.toArray⟩, vi, vk] 32)) 3 #[.int .i64 0]
  rw [hz1] at hL2
  have hb2 : Below w.heap.size w ((w.alloc (.cells #[.int .i64 t.k, .int .i64 t.n, .string ⟨t.s.toArray⟩, vp, .int .i64 t.d.k, .int .i64 t.d.n, .string ⟨t.d.s.toArray⟩, vi, vk] 32)).alloc (.cells #[.int .i64 0] 3)) :=
    ((Below.refl _ w).alloc (Nat.le_refl _) _).alloc (by simp) _
  have hE2 := Lib.hid (hE.out _ hb2 _ (Nat.le_succ _) hL2)
  clear hE hz1 hL1 hL2 hb2 h
  go_enter Try.func11, Try.ntmps11
  go_wp2_with (
    go_at_call 22
    refine hE2.out.mono ?_
    rintro e w3 ⟨rfl, hP3, -, hb3, -⟩
    have q3 : w3.cell? ⟨w.heap.size + 1, 0, none⟩ = some (.int .i64 (Y : Nat)) := hP3.cell 0)
  go_ret
  exact ⟨rfl, hb3⟩
end Go.Proofs.Ytpiekdcbjkgipaa
