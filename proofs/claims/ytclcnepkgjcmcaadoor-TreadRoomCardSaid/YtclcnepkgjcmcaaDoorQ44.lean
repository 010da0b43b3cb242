/- Completeness: what is known of a heap from a flip to its cycle's end; loops of increments. -/
import Derived.Test.YtclcnepkgjcmcaaDoorQ43
namespace Go.Proofs.YtclcnepkgjcmcaaDoor
open Go.RowKit

/-- from the flip of cycle c on: A0 were reached at the flip; what is numbered from N0 on was made since -/
def Fk (c : Int) (A0 : Nat → Prop) (N0 N : Nat) : Gk := fun H _ A _ => c ≤ H.cyc ∧ (H.cyc = c → H.mrk = true ∧ ∀ i, A i ↔ (A0 i ∨ (N0 ≤ i ∧ i < N)))
/-- no thing is weak -/
def Plain (M : Md) (N : Nat) : Prop := ∀ i, i < N → M.form i ≠ 3
section
variable {c e : Int} {A0 A D : Nat → Prop} {N0 N m n : Nat} {R : Nat → List Int} {H : Hp} {G : Geo} {M : Md} {f : Int}
theorem regs_cyc {B : Int} (i : Inv B G H R) : ∀ n, (H.shadeRegs G n).cyc = H.cyc
  | 0 => rfl
  | n + 1 => by
    obtain ⟨i1, -⟩ := inv_regs i n
    have hr := i1.wrd n
    obtain ⟨-, -, -, -, -, f6, -⟩ := shade_facts i1 hr.1 hr.2
    exact f6.trans (regs_cyc i n)
theorem Safe.flip_cyc (s : Safe e G H R M A D) (hm : H.mrk = false) : (H.inc G).cyc = H.cyc := by
  obtain ⟨i0, -⟩ := inv_flip0 s.inv hm
  have h1 := regs_cyc i0 12
  have e1 : H.inc G = H.flip G := by rw [Hp.inc, hm]; rfl
  obtain ⟨-, -, -, -, -, -, -, -, h2, -⟩ := flips_facts s.inv 4 (by omega)
  rw [e1]
  show (Hp.shadeRegs G { H.flips G 4 with mrk := true } 12).cyc = _
  rw [h1]
  exact h2
theorem Safe.step_cyc (s : Safe e G H R M A D) (hm : H.mrk = true) (hw : ∀ i, A i → M.form i ≠ 3) : ((H.inc G).mrk = true → (H.inc G).cyc = H.cyc) ∧ ((H.inc G).mrk = false → (H.inc G).cyc = H.cyc + 1) := by
  rcases s.inv.first with ⟨h12, hf⟩ | ⟨x, l, h12, hf, hne⟩
  · have e1 : H.inc G = H.end_ := by rw [Hp.inc, hm, if_pos rfl, if_pos hf]
    rw [e1]
    exact ⟨(fun h => by cases h), fun _ => rfl⟩
  · have hx : x ∈ R 12 := by rw [h12]; simp
    obtain ⟨z, hA, rfl⟩ := s.co.prec x ⟨12, by omega, by omega, hx⟩
    have hform := (s.ct.mark z hA).1
    have hz := hw z hA
    have ht : mtask (gv H.ws (M.cell z)) = 1 := by
      obtain ⟨-, ht | ht⟩ := s.inv.mem12 hx
      · exact ht
      · have := (s.inv.weak hx ht).1
        omega
    have e1 : H.inc G = H.scan G (M.cell z) (gv H.ws (M.cell z)) := by rw [Hp.inc, hm, if_pos rfl, hf, if_neg hne, if_pos ht]
    have hc : (H.scan G (M.cell z) (gv H.ws (M.cell z))).cyc = H.cyc ∧ (H.scan G (M.cell z) (gv H.ws (M.cell z))).mrk = H.mrk := by
      obtain ⟨-, -, -, -, r1, r2, -⟩ := inv_shadeUp s.inv hx (msize (gv H.ws (M.cell z))).toNat
      unfold Hp.scan
      split
      · exact ⟨rfl, rfl⟩
      · split
        · exact ⟨r2, r1⟩
        · split <;> exact ⟨rfl, rfl⟩
    rw [e1]
    exact ⟨fun _ => hc.1, fun h => by rw [hc.2, hm] at h; cases h⟩
theorem Fk.quiet (h : (Fk c A0 N0 N).quiet H R A D) : Fk c A0 N0 N H R A D := by
  obtain ⟨H1, R1, ⟨h1, h2⟩, h3, h4, -⟩ := h
  exact ⟨by rw [h4]; exact h1, fun h => by rw [h3]; exact h2 (by rw [← h4]; exact h)⟩
theorem Fk.inc (hw : Plain M m) (h : Gk.inc G M ((Fk c A0 N0 N).low m) H R A D) : Fk c A0 N0 N H R A D := by
  obtain ⟨e1, H1, R1, A1, D1, ⟨⟨h1, h2⟩, hl⟩, s, rfl, rfl, h3, h4⟩ := h
  have hA : ∀ i, A1 i → M.form i ≠ 3 := fun i hi => hw i (hl i (s.ct.sub i hi))
  cases hm : H1.mrk
  · have hc := s.flip_cyc hm
    refine ⟨by rw [hc]; exact h1, fun h => ?_⟩
    rw [hc] at h
    have := (h2 h).1
    rw [hm] at this
    cases this
  · obtain ⟨k1, k2⟩ := s.step_cyc hm hA
    cases hm2 : (H1.inc G).mrk
    · have hc := k2 hm2
      exact ⟨by rw [hc]; omega, fun h => by rw [hc] at h; omega⟩
    · have hc := k1 hm2
      refine ⟨by rw [hc]; exact h1, fun h => ⟨hm2.symm ▸ rfl, fun i => ?_⟩⟩
      rw [(h3 hm).1]
      rw [hc] at h
      exact (h2 h).2 i
theorem Fk.incs (hw : Plain M m) : ∀ (n : Nat) {H : Hp} {R : Nat → List Int} {A D : Nat → Prop}, Gk.incs G M ((Fk c A0 N0 N).low m) n H R A D → (Fk c A0 N0 N).low m H R A D
  | 0, _, _, _, _, h => h
  | n + 1, _, _, _, _, h => by
    have h' := Gk.inc_mono (fun _ _ _ _ h => Fk.incs hw n h) h
    exact ⟨Fk.inc hw h', (Gk.inc_low h').2⟩
theorem Fk.take (hN : N0 ≤ N) (h : Gk.take G M f n N ((Fk c A0 N0 N).low N) H R A D) : (Fk c A0 N0 (N + 1)).low (N + 1) H R A D := by
  obtain ⟨e1, H1, R1, A1, D1, ⟨⟨h1, h2⟩, hl⟩, s, -, rfl, rfl, rfl, rfl⟩ := h
  refine ⟨⟨h1, fun hc => ⟨(h2 hc).1, fun i => ?_⟩⟩, fun i hi => ?_⟩
  · have := (h2 hc).2 i
    show A1 i ∨ i = N ↔ _
    rw [this]
    constructor
    · rintro ((h | h) | rfl)
      · exact .inl h
      · exact .inr ⟨h.1, by omega⟩
      · exact .inr ⟨hN, by omega⟩
    · rintro (h | h)
      · exact .inl (.inl h)
      · by_cases e : i = N
        · exact .inr e
        · exact .inl (.inr ⟨h.1, by omega⟩)
  · rcases hi with hi | rfl
    · have := hl i hi; omega
    · omega
theorem Gk.take_mono {K K' : Gk} (hk : ∀ H R A D, K H R A D → K' H R A D) (h : Gk.take G M f n N K H R A D) : Gk.take G M f n N K' H R A D := by
  obtain ⟨e1, H1, R1, A1, D1, k, h⟩ := h
  exact ⟨e1, H1, R1, A1, D1, hk _ _ _ _ k, h⟩
theorem Gk.quiet_mono {K K' : Gk} (hk : ∀ H R A D, K H R A D → K' H R A D) (h : K.quiet H R A D) : K'.quiet H R A D := by
  obtain ⟨H1, R1, k, h⟩ := h
  exact ⟨H1, R1, hk _ _ _ _ k, h⟩
theorem get3_form (M : Md) (ra rb : Nat) (n : Int) : (M.get3 ra rb n).form = M.form := by
  unfold Md.get3
  split
  · rfl
  · split <;> rfl
theorem put4_form (M : Md) (ra rb : Nat) (n : Int) : (M.put4 ra rb n).form = M.form := by
  unfold Md.put4
  split
  · rfl
  · split <;> rfl
theorem Plain.add {r : Nat} {v : V} {f : Int} {k : Nat} {c : Int} (h : Plain M N) (hf : f ≠ 3) : Plain ((M.add N f k c).setReg r v) (N + 1) := by
  intro i hi
  show (if i = N then f else M.form i) ≠ 3
  split
  · exact hf
  · exact h i (by omega)
end
section
variable {w : World} {x q p b : Nat} {e : Int} {G : Geo} {M : Md} {N B : Nat} {blk : Nat → Nat} {fv : Nat → Value} {al : Value} {full : Bool}
/-- how do leaves the law's world, whatever is done but kind 7; L: what stays known, by how many things there are -/
theorem Ws.do_gen {L : Nat → Gk} (s : Ws w x q p b e G M N B blk fv al false full ((L N).low N)) (hw : Plain M N) (hxg : x ≠ 0) (hN : N ≤ 1000) (he : e ≤ 900000000) (k0 a0 b0 c0 n : Int) (h7 : k0 ≠ 7)
    (hq : ∀ H R A D, ((L N).low N).quiet H R A D → L N H R A D) (hi : ∀ k H R A D, (k0 = 6 ∨ k0 = 1 ∨ k0 = 8) → (k0 = 6 ∨ k = G.k.toNat) → Gk.incs G M ((L N).low N) k H R A D → (L N).low N H R A D)
    (ht : ∀ f k H R A D, Gk.take G M f k N ((L N).low N) H R A D → (L (N + 1)).low (N + 1) H R A D) (hq1 : ∀ H R A D, ((L (N + 1)).low (N + 1)).quiet H R A D → L (N + 1) H R A D) :
    Calls Tryd.prog 7 #[.pointer (some ⟨x, 0, none⟩), .agg #[.int .i64 k0, .int .i64 a0, .int .i64 b0, .int .i64 c0, .int .i64 n]] w fun r w' => r = .returned (.tuple #[]) ∧
      (∃ e' M' N' blk' fv' al' full', e' ≤ e + 300 ∧ (N' ≤ N + 1 ∧ N ≤ N') ∧ Plain M' N' ∧ (∀ i, i < N → blk' i = blk i) ∧ Ws w' x q p b e' G M' N' B blk' fv' al' false full' ((L N').low N')) ∧ Turns (DoT w x q p b B) w w' := by
  have hk64 : 1 ≤ G.k ∧ G.k ≤ 64 := by
    obtain ⟨H, R, A, D, h, hs, hk⟩ := s.heap
    exact ⟨hs.inv.ok.2.2.2.2.2.2.2.2.1, hs.inv.ok.2.2.2.2.2.2.2.2.2.1⟩
  have lowq : ∀ {w' : World} {e' : Int} {M' : Md} {N' : Nat} {blk' : Nat → Nat} {fv' : Nat → Value} {al' : Value} {full' : Bool} {K K' : Gk}, Ws w' x q p b e' G M' N' B blk' fv' al' false full' K → (∀ H R A D, K.low N' H R A D → K' H R A D) → Ws w' x q p b e' G M' N' B blk' fv' al' false full' (K'.low N') := fun s2 h => by
    obtain ⟨H, R, A, D, h1, hs, hk⟩ := s2.heap
    exact ⟨s2.cells, s2.things, s2.all, ⟨H, R, A, D, h1, hs, ⟨⟨h _ _ _ _ hk, hk.2⟩, hk.2⟩⟩, s2.lq, s2.lp, s2.lb, s2.lx, s2.apart, s2.high, s2.sz⟩
  have mk : ∀ {w' : World} {f : Int} {k ra : Nat} {al0 : Value}, (k0 = 6 ∨ k0 = 1 ∨ k0 = 8) → f ≠ 3 → Made w' x q p b e G M N B blk al0 full ((L N).low N) ra f k →
      ∃ e' M' N' blk' fv' al' full', e' ≤ e + 300 ∧ (N' ≤ N + 1 ∧ N ≤ N') ∧ Plain M' N' ∧ (∀ i, i < N → blk' i = blk i) ∧ Ws w' x q p b e' G M' N' B blk' fv' al' false full' ((L N').low N') := by
    intro w' f k ra al0 hk hf h
    rcases h with ⟨blk', fv', hbk, a2⟩ | ⟨c, blk', fv', al', hbk, a2⟩
    · exact ⟨e + G.k.toNat, _, N, blk', fv', _, _, by omega, ⟨by omega, Nat.le_refl _⟩, hw, hbk, lowq a2 (fun _ _ _ _ h => (hi _ _ _ _ _ hk (.inr rfl) h.1.1).1)⟩
    · refine ⟨e + G.k.toNat, _, N + 1, blk', fv', al', _, by omega, ⟨Nat.le_refl _, by omega⟩, hw.add hf, hbk, lowq a2 (fun _ _ _ _ h => hq1 _ _ _ _ (Gk.quiet_mono (fun _ _ _ _ h => ht _ _ _ _ _ _ (Gk.take_mono (fun _ _ _ _ h => hi _ _ _ _ _ hk (.inr rfl) h) h)) h.1))⟩
  by_cases h1 : k0 = 1
  · refine (s.do1 hxg (by omega) (by omega) k0 a0 b0 c0 n h1).mono ?_
    rintro r w' ⟨a1, a2, a3⟩
    exact ⟨a1, mk (by omega) (by omega) a2, a3⟩
  by_cases h2 : k0 = 2
  · refine (s.do2 hxg k0 a0 b0 c0 n h2).mono ?_
    rintro r w' ⟨a1, a2, a3⟩
    refine ⟨a1, ⟨e, _, _, _, _, _, _, by omega, ⟨by omega, Nat.le_refl _⟩, ?_, fun _ _ => rfl, lowq a2 (fun _ _ _ _ h => hq _ _ _ _ h.1)⟩, a3⟩
    exact hw
  by_cases h3 : k0 = 3
  · refine (s.do3 hxg k0 a0 b0 c0 n h3).mono ?_
    rintro r w' ⟨a1, a2, a3⟩
    refine ⟨a1, ⟨e, _, _, _, _, _, _, by omega, ⟨by omega, Nat.le_refl _⟩, ?_, fun _ _ => rfl, lowq a2 (fun _ _ _ _ h => hq _ _ _ _ h.1)⟩, a3⟩
    exact (fun i hi => by rw [get3_form]; exact hw i hi)
  by_cases h4 : k0 = 4
  · refine (s.do4 hxg k0 a0 b0 c0 n h4).mono ?_
    rintro r w' ⟨a1, a2, a3⟩
    refine ⟨a1, ⟨e, _, _, _, _, _, _, by omega, ⟨by omega, Nat.le_refl _⟩, ?_, fun _ _ => rfl, lowq a2 (fun _ _ _ _ h => hq _ _ _ _ h.1)⟩, a3⟩
    exact (fun i hi => by rw [put4_form]; exact hw i hi)
  by_cases h5 : k0 = 5
  · refine (s.do5 hxg k0 a0 b0 c0 n h5).mono ?_
    rintro r w' ⟨a1, a2, a3⟩
    refine ⟨a1, ⟨e, _, _, _, _, _, _, by omega, ⟨by omega, Nat.le_refl _⟩, ?_, fun _ _ => rfl, lowq a2 (fun _ _ _ _ h => hq _ _ _ _ h.1)⟩, a3⟩
    exact (fun i hi => by split <;> exact hw i hi)
  by_cases h6 : k0 = 6
  · refine (s.do6 (by omega) k0 a0 b0 c0 n h6).mono ?_
    rintro r w' ⟨a1, a2, a3⟩
    refine ⟨a1, ⟨e + (min (max n 0) 300).toNat, _, _, _, _, _, _, by omega, ⟨by omega, Nat.le_refl _⟩, ?_, fun _ _ => rfl, lowq a2 (fun _ _ _ _ h => (hi _ _ _ _ _ (.inl h6) (.inl h6) h.1).1)⟩, a3.mono fun _ _ h => .inl (.inr h)⟩
    exact hw
  by_cases h8 : k0 = 8
  · refine (s.do8 hxg (by omega) (by omega) k0 a0 b0 c0 n h8).mono ?_
    rintro r w' ⟨a1, a2, a3⟩
    exact ⟨a1, mk (by omega) (by omega) a2, a3⟩
  · refine (s.do0 hxg k0 a0 b0 c0 n h1 h2 h3 h4 h5 h6 h7 h8).mono ?_
    rintro r w' ⟨a1, a2, a3⟩
    refine ⟨a1, ⟨e, _, _, _, _, _, _, by omega, ⟨by omega, Nat.le_refl _⟩, ?_, fun _ _ => rfl, lowq a2 (fun _ _ _ _ h => hq _ _ _ _ h.1)⟩, a3⟩
    exact hw
/-- nothing is asked but that no thing is weak -/
theorem Ws.do_plain (s : Ws w x q p b e G M N B blk fv al false full Gk.any) (hw : Plain M N) (hxg : x ≠ 0) (hN : N ≤ 1000) (he : e ≤ 900000000) (k0 a0 b0 c0 n : Int) (h7 : k0 ≠ 7) :
    Calls Tryd.prog 7 #[.pointer (some ⟨x, 0, none⟩), .agg #[.int .i64 k0, .int .i64 a0, .int .i64 b0, .int .i64 c0, .int .i64 n]] w fun r w' => r = .returned (.tuple #[]) ∧
      (∃ e' M' N' blk' fv' al' full', e' ≤ e + 300 ∧ N' ≤ N + 1 ∧ Plain M' N' ∧ Ws w' x q p b e' G M' N' B blk' fv' al' false full' Gk.any) ∧ Turns (DoT w x q p b B) w w' := by
  have lowi : Ws w x q p b e G M N B blk fv al false full (((fun _ => Gk.any) N : Gk).low N) := by
    obtain ⟨H, R, A, D, h1, hs, hk⟩ := s.heap
    exact ⟨s.cells, s.things, s.all, ⟨H, R, A, D, h1, hs, ⟨⟨trivial, hk.2⟩, hk.2⟩⟩, s.lq, s.lp, s.lb, s.lx, s.apart, s.high, s.sz⟩
  refine (Ws.do_gen (L := fun _ => Gk.any) lowi hw hxg hN he k0 a0 b0 c0 n h7 (fun _ _ _ _ _ => trivial) (fun k H R A D _ _ h => ⟨trivial, ?_⟩) (fun f k H R A D h => ⟨trivial, ?_⟩) (fun _ _ _ _ _ => trivial)).mono ?_
  · exact (Gk.incs_low k h).2
  · obtain ⟨e1, H1, R1, A1, D1, ⟨-, hl⟩, -, -, -, -, -, rfl⟩ := h
    intro i hi
    rcases hi with hi | rfl
    · have := hl i hi; omega
    · omega
  · rintro r w' ⟨a1, ⟨e', M', N', blk', fv', al', full', h1, h2, h3, -, h5⟩, a3⟩
    exact ⟨a1, ⟨e', M', N', blk', fv', al', full', h1, h2.1, h3, h5.weaken fun _ _ _ _ _ => trivial⟩, a3⟩
/-- from the flip on -/
theorem Ws.do_fk {c : Int} {A0 : Nat → Prop} {N0 : Nat} (s : Ws w x q p b e G M N B blk fv al false full ((Fk c A0 N0 N).low N)) (hw : Plain M N) (hN0 : N0 ≤ N) (hxg : x ≠ 0) (hN : N ≤ 1000) (he : e ≤ 900000000) (k0 a0 b0 c0 n : Int) (h7 : k0 ≠ 7) :
    Calls Tryd.prog 7 #[.pointer (some ⟨x, 0, none⟩), .agg #[.int .i64 k0, .int .i64 a0, .int .i64 b0, .int .i64 c0, .int .i64 n]] w fun r w' => r = .returned (.tuple #[]) ∧
      (∃ e' M' N' blk' fv' al' full', e' ≤ e + 300 ∧ (N' ≤ N + 1 ∧ N ≤ N') ∧ Plain M' N' ∧ (∀ i, i < N → blk' i = blk i) ∧ Ws w' x q p b e' G M' N' B blk' fv' al' false full' ((Fk c A0 N0 N').low N')) ∧ Turns (DoT w x q p b B) w w' :=
  Ws.do_gen (L := fun N => Fk c A0 N0 N) s hw hxg hN he k0 a0 b0 c0 n h7 (fun _ _ _ _ h => Fk.quiet (Gk.quiet_mono (fun _ _ _ _ h => h.1) h)) (fun k _ _ _ _ _ _ h => Fk.incs hw k h) (fun _ _ _ _ _ _ h => Fk.take hN0 h) (fun _ _ _ _ h => Fk.quiet (Gk.quiet_mono (fun _ _ _ _ h => h.1) h))
end
end Go.Proofs.YtclcnepkgjcmcaaDoor
