/- TreadRoom: two plays of one script have the same things, but for their cells. -/
import Derived.Test.YtclcnepkgjcmcaaDoorQ45
import Derived.Test.YtclcnepkgjcmcaaDoorQ5
import Derived.Test.YtclcnepkgjcmcaaDoorQ1
import Derived.OpenShut
namespace Go.Proofs.YtclcnepkgjcmcaaDoor
open Go.RowKit

/-- the same things, but for their cells -/
structure Sim (M P : Md) : Prop where
  form : P.form = M.form
  len : P.len = M.len
  fld : P.fld = M.fld
  reg : P.reg = M.reg
section
variable {M P : Md} {N r : Nat} {v : V} {f : Int} {n : Nat} {c c' : Int}
theorem Sim.refl (M : Md) : Sim M M := ⟨rfl, rfl, rfl, rfl⟩
theorem Sim.setReg (h : Sim M P) (r : Nat) (v : V) : Sim (M.setReg r v) (P.setReg r v) :=
  ⟨h.form, h.len, h.fld, by show (fun k => if k = r then v else P.reg k) = _; rw [h.reg]; rfl⟩
theorem Sim.setFld (h : Sim M P) (z j : Nat) (v : V) : Sim (M.setFld z j v) (P.setFld z j v) :=
  ⟨h.form, h.len, by show (fun i k => if i = z ∧ k = j then v else P.fld i k) = _; rw [h.fld]; rfl, h.reg⟩
theorem Sim.add (h : Sim M P) (N : Nat) (f : Int) (n : Nat) (c c' : Int) : Sim (M.add N f n c) (P.add N f n c') :=
  ⟨by show (fun i => if i = N then f else P.form i) = _; rw [h.form]; rfl, by show (fun i => if i = N then n else P.len i) = _; rw [h.len]; rfl, by show (fun i k => if i = N then V.w (blank f) else P.fld i k) = _; rw [h.fld]; rfl, h.reg⟩
theorem Sim.get3 (h : Sim M P) (ra rb : Nat) (n : Int) : Sim (M.get3 ra rb n) (P.get3 ra rb n) := by
  unfold Md.get3
  rw [h.reg]
  cases M.reg rb with
  | w _ => exact h
  | t z =>
    simp only [h.form, h.len, h.fld]
    split
    · exact h.setReg _ _
    · exact h
theorem Sim.put4 (h : Sim M P) (ra rb : Nat) (n : Int) : Sim (M.put4 ra rb n) (P.put4 ra rb n) := by
  unfold Md.put4
  rw [h.reg]
  cases M.reg ra with
  | w _ => exact h
  | t z =>
    simp only [h.form, h.len]
    split
    · exact h.setFld _ _ _
    · exact h
theorem Sim.reach (h : Sim M P) {i : Nat} (hr : Reach M i) : Reach P i := fun C hC => hr C
  ⟨fun r hr => by have := hC.reg r hr; rw [h.reg] at this; exact this, fun i hi hf j hj => by have := hC.plain i hi (by rw [h.form]; exact hf) j (by rw [h.len]; exact hj); rw [h.fld] at this; exact this,
    fun i hi hf h0 => by have := hC.weak i hi (by rw [h.form]; exact hf) (by rw [h.fld]; exact h0); rw [h.fld] at this; exact this⟩
theorem Sim.symm (h : Sim M P) : Sim P M := ⟨h.form.symm, h.len.symm, h.fld.symm, h.reg.symm⟩
end
/-- how many fields a new thing gets -/
def lenF (n : Int) : Nat := (n % 18446744073709551616 % 128).toNat
/-- an operation of a script, by the plain model alone: things without cells, and how many there are -/
def nxt (k0 a0 b0 n : Int) (p : Md × Nat) : Md × Nat :=
  if k0 = 1 then ((p.1.add p.2 1 (lenF n) 0).setReg (rgn a0) (.t p.2), p.2 + 1)
  else if k0 = 2 then (p.1.setReg (rgn a0) (p.1.reg (rgn b0)), p.2)
  else if k0 = 3 then (p.1.get3 (rgn a0) (rgn b0) n, p.2)
  else if k0 = 4 then (p.1.put4 (rgn a0) (rgn b0) n, p.2)
  else if k0 = 5 then (if WM.hd 0 n then p.1.setReg (rgn a0) (.w (WM.mk 0 n)) else p.1, p.2)
  else if k0 = 8 then ((p.1.add p.2 2 (lenF n) 0).setReg (rgn a0) (.t p.2), p.2 + 1)
  else p
/-- so many operations; increments and weak things are left out -/
def runs (Z : Nat → Nat → Int) : Nat → Md × Nat
  | 0 => (Md.none, 0)
  | i + 1 => if Z i 0 = 6 ∨ Z i 0 = 7 then runs Z i else nxt (Z i 0) (Z i 1) (Z i 2) (Z i 4) (runs Z i)
/-- at most L are reached -/
def Rb (L : Nat) (M : Md) : Prop := ∃ S : List Nat, S.length ≤ L ∧ ∀ i, Reach M i → i ∈ S
theorem Rb.none (L : Nat) : Rb L Md.none := ⟨[], Nat.zero_le _, fun _ h => (h (fun _ => False) ⟨fun _ _ => trivial, fun _ h => h.elim, fun _ h => h.elim⟩).elim⟩
theorem Rb.mono {L L' : Nat} {M : Md} (h : Rb L M) (hl : L ≤ L') : Rb L' M := by
  obtain ⟨S, h1, h2⟩ := h
  exact ⟨S, Nat.le_trans h1 hl, h2⟩
theorem Rb.sim {L : Nat} {M P : Md} (h : Rb L P) (hs : Sim M P) : Rb L M := by
  obtain ⟨S, h1, h2⟩ := h
  exact ⟨S, h1, fun i hi => h2 i (hs.reach hi)⟩
section
variable {w : World} {x q p b : Nat} {e : Int} {G : Geo} {M P : Md} {N B : Nat} {blk : Nat → Nat} {fv : Nat → Value} {al : Value} {full : Bool} {K : Gk}
/-- do, by the plain model; what becomes of the ghost -/
theorem Ws.do_model (s : Ws w x q p b e G M N B blk fv al false full K) (hw : Plain M N) (hS : Sim M P) (hxg : x ≠ 0) (hN : N ≤ 1000) (he : e ≤ 900000000) (k0 a0 b0 c0 n : Int) (h6 : k0 ≠ 6) (h7 : k0 ≠ 7) :
    Calls Tryd.prog 7 #[.pointer (some ⟨x, 0, none⟩), .agg #[.int .i64 k0, .int .i64 a0, .int .i64 b0, .int .i64 c0, .int .i64 n]] w fun r w' => r = .returned (.tuple #[]) ∧
      ((∃ blk' fv' n', Ws w' x q p b (e + G.k.toNat) G M N B blk' fv' al false true ((Gk.incs G M K G.k.toNat).full n')) ∨
        (∃ M' N' blk' fv' al', Plain M' N' ∧ Sim M' (nxt k0 a0 b0 n (P, N)).1 ∧ N' = (nxt k0 a0 b0 n (P, N)).2 ∧
          ((N' = N ∧ Ws w' x q p b e G M' N' B blk' fv' al' false full K.quiet) ∨
            (∃ f n', N' = N + 1 ∧ Ws w' x q p b (e + G.k.toNat) G M' N' B blk' fv' al' false full (Gk.take G M f n' N (Gk.incs G M K G.k.toNat)).quiet)))) ∧ Turns (DoT w x q p b B) w w' := by
  have hk64 : 1 ≤ G.k ∧ G.k ≤ 64 := by
    obtain ⟨H, R, A, D, h, hs, hk⟩ := s.heap
    exact ⟨hs.inv.ok.2.2.2.2.2.2.2.2.1, hs.inv.ok.2.2.2.2.2.2.2.2.2.1⟩
  unfold nxt
  by_cases h1 : k0 = 1
  · refine (s.do1 hxg (by omega) (by omega) k0 a0 b0 c0 n h1).mono ?_
    rintro r w' ⟨a1, a2, a3⟩
    refine ⟨a1, ?_, a3⟩
    rcases a2 with ⟨blk', fv', -, a2⟩ | ⟨c, blk', fv', al', -, a2⟩
    · exact .inl ⟨_, _, _, a2⟩
    · refine .inr ⟨_, _, _, _, _, hw.add (by omega), ?_, ?_, .inr ⟨_, _, rfl, a2⟩⟩
      · rw [if_pos h1]
        exact (hS.add _ _ _ _ _).setReg _ _
      · rw [if_pos h1]
  rw [if_neg h1]
  by_cases h2 : k0 = 2
  · refine (s.do2 hxg k0 a0 b0 c0 n h2).mono ?_
    rintro r w' ⟨a1, a2, a3⟩
    refine ⟨a1, .inr ⟨M.setReg (rgn a0) (M.reg (rgn b0)), _, _, _, _, hw, ?_, ?_, .inl ⟨rfl, a2⟩⟩, a3⟩
    · rw [if_pos h2]
      rw [show P.reg (rgn b0) = M.reg (rgn b0) by rw [hS.reg]]
      exact hS.setReg _ _
    · rw [if_pos h2]
  rw [if_neg h2]
  by_cases h3 : k0 = 3
  · refine (s.do3 hxg k0 a0 b0 c0 n h3).mono ?_
    rintro r w' ⟨a1, a2, a3⟩
    refine ⟨a1, .inr ⟨_, _, _, _, _, (fun i hi => by rw [get3_form]; exact hw i hi), ?_, ?_, .inl ⟨rfl, a2⟩⟩, a3⟩
    · rw [if_pos h3]
      exact hS.get3 _ _ _
    · rw [if_pos h3]
  rw [if_neg h3]
  by_cases h4 : k0 = 4
  · refine (s.do4 hxg k0 a0 b0 c0 n h4).mono ?_
    rintro r w' ⟨a1, a2, a3⟩
    refine ⟨a1, .inr ⟨_, _, _, _, _, (fun i hi => by rw [put4_form]; exact hw i hi), ?_, ?_, .inl ⟨rfl, a2⟩⟩, a3⟩
    · rw [if_pos h4]
      exact hS.put4 _ _ _
    · rw [if_pos h4]
  rw [if_neg h4]
  by_cases h5 : k0 = 5
  · refine (s.do5 hxg k0 a0 b0 c0 n h5).mono ?_
    rintro r w' ⟨a1, a2, a3⟩
    refine ⟨a1, .inr ⟨_, _, _, _, _, (fun i hi => by split <;> exact hw i hi), ?_, ?_, .inl ⟨rfl, a2⟩⟩, a3⟩
    · rw [if_pos h5]
      show Sim (if WM.hd 0 n then M.setReg (rgn a0) (.w (WM.mk 0 n)) else M) (if WM.hd 0 n then P.setReg (rgn a0) (.w (WM.mk 0 n)) else P)
      split
      · exact hS.setReg _ _
      · exact hS
    · rw [if_pos h5]
  rw [if_neg h5]
  by_cases h8 : k0 = 8
  · refine (s.do8 hxg (by omega) (by omega) k0 a0 b0 c0 n h8).mono ?_
    rintro r w' ⟨a1, a2, a3⟩
    refine ⟨a1, ?_, a3⟩
    rcases a2 with ⟨blk', fv', -, a2⟩ | ⟨c, blk', fv', al', -, a2⟩
    · exact .inl ⟨_, _, _, a2⟩
    · refine .inr ⟨_, _, _, _, _, hw.add (by omega), ?_, ?_, .inr ⟨_, _, rfl, a2⟩⟩
      · rw [if_pos h8]
        exact (hS.add _ _ _ _ _).setReg _ _
      · rw [if_pos h8]
  rw [if_neg h8]
  refine (s.do0 hxg k0 a0 b0 c0 n h1 h2 h3 h4 h5 h6 h7 h8).mono ?_
  rintro r w' ⟨a1, a2, a3⟩
  exact ⟨a1, .inr ⟨_, _, _, _, _, hw, hS, rfl, .inl ⟨rfl, a2⟩⟩, a3⟩
/-- the first play: it is full, or as the plain model says -/
theorem Ws.do_x (s : Ws w x q p b e G M N B blk fv al false full Gk.any) (hw : Plain M N) (hxg : x ≠ 0) (hN : N ≤ 1000) (he : e ≤ 900000000) (hk : G.k ≤ 64) (k0 a0 b0 c0 n : Int) (h6 : k0 ≠ 6) (h7 : k0 ≠ 7) {P : Md} {T : Nat} (hS : full = true ∨ (Sim M P ∧ N = T)) :
    Calls Tryd.prog 7 #[.pointer (some ⟨x, 0, none⟩), .agg #[.int .i64 k0, .int .i64 a0, .int .i64 b0, .int .i64 c0, .int .i64 n]] w fun r w' => r = .returned (.tuple #[]) ∧
      (∃ e' M' N' blk' fv' al' full', e' ≤ e + 64 ∧ N' ≤ N + 1 ∧ Plain M' N' ∧ Ws w' x q p b e' G M' N' B blk' fv' al' false full' Gk.any ∧ (full' = true ∨ (Sim M' (nxt k0 a0 b0 n (P, T)).1 ∧ N' = (nxt k0 a0 b0 n (P, T)).2)) ∧ (full = true → full' = true)) ∧ Turns (DoT w x q p b B) w w' := by
  have key : ∀ {Q : Md}, Sim M Q → (full = true ∨ (Q = P ∧ N = T)) → Calls Tryd.prog 7 #[.pointer (some ⟨x, 0, none⟩), .agg #[.int .i64 k0, .int .i64 a0, .int .i64 b0, .int .i64 c0, .int .i64 n]] w fun r w' => r = .returned (.tuple #[]) ∧
      (∃ e' M' N' blk' fv' al' full', e' ≤ e + 64 ∧ N' ≤ N + 1 ∧ Plain M' N' ∧ Ws w' x q p b e' G M' N' B blk' fv' al' false full' Gk.any ∧ (full' = true ∨ (Sim M' (nxt k0 a0 b0 n (P, T)).1 ∧ N' = (nxt k0 a0 b0 n (P, T)).2)) ∧ (full = true → full' = true)) ∧ Turns (DoT w x q p b B) w w' := by
    intro Q hQ hc
    refine (s.do_model hw hQ hxg hN he k0 a0 b0 c0 n h6 h7).mono ?_
    rintro r w' ⟨a1, a2, a3⟩
    refine ⟨a1, ?_, a3⟩
    rcases a2 with ⟨blk', fv', n', a2⟩ | ⟨M', N', blk', fv', al', b1, b2, b3, ⟨b4, b5⟩ | ⟨f, n', b4, b5⟩⟩
    · exact ⟨_, _, _, _, _, _, _, by omega, by omega, hw, a2.weaken fun _ _ _ _ _ => trivial, .inl rfl, fun _ => rfl⟩
    · refine ⟨_, _, _, _, _, _, _, by omega, by omega, b1, b5.weaken fun _ _ _ _ _ => trivial, hc.imp id ?_, id⟩
      rintro ⟨rfl, rfl⟩
      exact ⟨b2, b3⟩
    · refine ⟨_, _, _, _, _, _, _, by omega, by omega, b1, b5.weaken fun _ _ _ _ _ => trivial, hc.imp id ?_, id⟩
      rintro ⟨rfl, rfl⟩
      exact ⟨b2, b3⟩
  rcases hS with h | ⟨h1, h2⟩
  · exact key (Sim.refl M) (.inl h)
  · exact key h1 (.inr ⟨rfl, h2⟩)
/-- the second play: it is never full -/
theorem Ws.do_y {L Q k : Nat} (s : Ws w x q p b e G M N B blk fv al false false ((Rk L Q k 0 N).low N)) (hw : Plain M N) (hS : Sim M P) (hxg : x ≠ 0) (hN : N ≤ 1000) (he : e ≤ 900000000) (hk : 1 ≤ k) (hk6 : k ≤ 64) (hkG : G.k = k) (hQ : L ≤ Q * k) (hG : ∀ c, c < 4 → (2 * L + 2 * Q + 16 : Nat) ≤ G.n.at_ c) (hL : Rb L P) (k0 a0 b0 c0 n : Int) (h6 : k0 ≠ 6) (h7 : k0 ≠ 7) :
    Calls Tryd.prog 7 #[.pointer (some ⟨x, 0, none⟩), .agg #[.int .i64 k0, .int .i64 a0, .int .i64 b0, .int .i64 c0, .int .i64 n]] w fun r w' => r = .returned (.tuple #[]) ∧
      (∃ e' M' N' blk' fv' al', e' ≤ e + 64 ∧ N' ≤ N + 1 ∧ Plain M' N' ∧ Sim M' (nxt k0 a0 b0 n (P, N)).1 ∧ N' = (nxt k0 a0 b0 n (P, N)).2 ∧ Ws w' x q p b e' G M' N' B blk' fv' al' false false ((Rk L Q k 0 N').low N')) ∧ Turns (DoT w x q p b B) w w' := by
  have hkn : G.k.toNat = k := by omega
  have hLM : ∃ S : List Nat, S.length ≤ L ∧ ∀ i, Reach M i → i ∈ S := hL.sim hS
  have lowq : ∀ {w' : World} {e' : Int} {M' : Md} {N' : Nat} {blk' : Nat → Nat} {fv' : Nat → Value} {al' : Value} {full' : Bool} {K K' : Gk}, Ws w' x q p b e' G M' N' B blk' fv' al' false full' K → (∀ H R A D, K.low N' H R A D → K' H R A D) → Ws w' x q p b e' G M' N' B blk' fv' al' false full' (K'.low N') := fun s2 h => by
    obtain ⟨H, R, A, D, h1, hs, hk⟩ := s2.heap
    exact ⟨s2.cells, s2.things, s2.all, ⟨H, R, A, D, h1, hs, ⟨⟨h _ _ _ _ hk, hk.2⟩, hk.2⟩⟩, s2.lq, s2.lp, s2.lb, s2.lx, s2.apart, s2.high, s2.sz⟩
  refine (s.do_model hw hS hxg hN he k0 a0 b0 c0 n h6 h7).mono ?_
  rintro r w' ⟨a1, a2, a3⟩
  refine ⟨a1, ?_, a3⟩
  rw [hkn] at a2
  have hin : ∀ H R A D, Gk.incs G M ((Rk L Q k 0 N).low N) k H R A D → Rk L Q k k N H R A D := fun H R A D h => (Rk.incs hk hQ hw hLM k (Nat.le_refl _) h).1
  rcases a2 with ⟨blk', fv', n', a2⟩ | ⟨M', N', blk', fv', al', b1, b2, b3, ⟨rfl, b5⟩ | ⟨f, n', rfl, b5⟩⟩
  · obtain ⟨H, R, A, D, h1, hs, hk2⟩ := a2.heap
    exact absurd hk2.1.2 (Rk.room hk hQ hs (hin _ _ _ _ hk2.1.1) (cln_lt _) (hG _ (cln_lt _)))
  · exact ⟨e, _, _, _, _, _, by omega, by omega, b1, b2, b3, lowq b5 fun _ _ _ _ h => Rk.quiet (Gk.quiet_mono (fun _ _ _ _ h => h.1) h.1)⟩
  · exact ⟨e + k, _, _, _, _, _, by omega, by omega, b1, b2, b3, lowq b5 fun _ _ _ _ h => Rk.quiet (Gk.quiet_mono (fun _ _ _ _ h => Rk.take hk hin h) h.1)⟩
end
end Go.Proofs.YtclcnepkgjcmcaaDoor

/- A configuration that came in: five numbers. -/
namespace Go.Proofs.YtclcnepkgjcmcaaDoor
open Go.ChangeShapes Go.WideShapes Go.ChangeAt Go.RowKit Go.Deep

section
variable {H : Type} {enc : TypeId × Value → H} {P : Program} {W : World} {base : Nat} {v : Value} {d : DataW H} {ps : List MemPlace}
theorem int_cell {e : TypeId} {fuel : Nat} {c : Value} {x : DataW H × List MemPlace} (he : P.underlying e = some (.int .i64)) (h : DataW.trod enc P W 0 (fun _ => true) true fuel e [c] = some x) : ∃ n, c = .int .i64 n ∧ (Lit.int .i64 n).wf = true := by
  obtain ⟨n, e1, -, e2⟩ := DataW.trod_int he h
  exact ⟨n, by simpa using e1, e2⟩
theorem conf_open {t e : TypeId} {f0 f1 : Field} (ht : P.underlying t = some (.struct #[f0, f1])) (ha : P.underlying f0.type = some (.array 4 e)) (he : P.underlying e = some (.int .i64)) (hk : P.underlying f1.type = some (.int .i64))
    (o0 : f0.offset = 0) (o1 : f1.offset = 4) (ct : P.cellsOf t = 5) (ca : P.cellsOf f0.type = 4) (ce : P.cellsOf e = 1) (ck : P.cellsOf f1.type = 1) (hv : Value.okWide P W .any base t v) (h : DataW.Trod enc P W 0 (fun _ => true) true t v d ps) :
    ∃ (q : Q4) (k : Int), v = .agg #[.int .i64 q.a, .int .i64 q.b, .int .i64 q.c, .int .i64 q.d, .int .i64 k] := by
  obtain ⟨cs, rfl, hs⟩ := okWide_struct ht hv
  rw [ct] at hs
  obtain ⟨fuel, hf⟩ := h
  obtain ⟨y0, y1, n, -, -, h0, h1⟩ := trod_struct2 ht hf
  obtain ⟨l⟩ := cs
  match l, hs with
  | [c0, c1, c2, c3, c4], _ =>
    rw [o0, ca] at h0
    rw [o1, ck] at h1
    simp [Value.cells] at h0 h1
    obtain ⟨xs, m, -, -, -, hl, hx⟩ := DataW.trod_array ha h0
    have g := fun i (hi : i < 4) => (hx i hi).trans (List.getElem?_eq_getElem (by omega))
    have g0 := g 0 (by omega)
    have g1 := g 1 (by omega)
    have g2 := g 2 (by omega)
    have g3 := g 3 (by omega)
    simp [ce] at g0 g1 g2 g3
    obtain ⟨n0, rfl, -⟩ := int_cell he g0
    obtain ⟨n1, rfl, -⟩ := int_cell he g1
    obtain ⟨n2, rfl, -⟩ := int_cell he g2
    obtain ⟨n3, rfl, -⟩ := int_cell he g3
    obtain ⟨n4, rfl, -⟩ := int_cell hk h1
    exact ⟨⟨n0, n1, n2, n3⟩, n4, rfl⟩
end
end Go.Proofs.YtclcnepkgjcmcaaDoor
