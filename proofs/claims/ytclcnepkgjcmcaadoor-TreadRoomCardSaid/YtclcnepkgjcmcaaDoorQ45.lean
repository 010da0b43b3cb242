/- TreadRoom: how many cells are had at most. Plain mathematics. -/
import Derived.Test.YtclcnepkgjcmcaaDoorQ44
namespace Go.Proofs.YtclcnepkgjcmcaaDoor
open Go.RowKit

section
variable {M : Md} {A D : Nat → Prop} {R : Nat → List Int} {e : Int} {G : Geo} {H : Hp} {N m n L Q k j : Nat} {f : Int}
/-- how many cells are had -/
def Tt (R : Nat → List Int) : Nat := Wh R + (R 12).length + Blk R
/-- blacks are cells of what may be reached -/
theorem Safe.blk_le (s : Safe e G H R M A D) {S : List Nat} (hm : m ≤ N) (hA : ∀ i, A i → i ∈ S ∨ (N - m ≤ i ∧ i < N)) : Blk R ≤ S.length + m := by
  have hlen : (R 8 ++ (R 9 ++ (R 10 ++ R 11))).length ≤ ((S ++ List.range' (N - m) m).map M.cell).length := nodup_le _ _ (by
    have ap : ∀ a b, a < 13 → b < 13 → a ≠ b → ∀ x ∈ R a, ∀ y ∈ R b, x ≠ y := fun a b ha hb hab x hx y hy e => hab (s.inv.rg.apart a b ha hb x hx (e ▸ hy))
    have nd := s.inv.rg.nodup
    refine List.nodup_append.2 ⟨nd 8 (by omega), List.nodup_append.2 ⟨nd 9 (by omega), List.nodup_append.2 ⟨nd 10 (by omega), nd 11 (by omega), ap 10 11 (by omega) (by omega) (by omega)⟩, fun x hx y hy => ?_⟩, fun x hx y hy => ?_⟩
    · rcases List.mem_append.1 hy with hy | hy
      · exact ap 9 10 (by omega) (by omega) (by omega) x hx y hy
      · exact ap 9 11 (by omega) (by omega) (by omega) x hx y hy
    · rcases List.mem_append.1 hy with hy | hy
      · exact ap 8 9 (by omega) (by omega) (by omega) x hx y hy
      · rcases List.mem_append.1 hy with hy | hy
        · exact ap 8 10 (by omega) (by omega) (by omega) x hx y hy
        · exact ap 8 11 (by omega) (by omega) (by omega) x hx y hy) fun x hx => by
    have hk : ∃ k, 8 ≤ k ∧ k < 13 ∧ x ∈ R k := by
      rcases List.mem_append.1 hx with hx | hx
      · exact ⟨8, by omega, by omega, hx⟩
      · rcases List.mem_append.1 hx with hx | hx
        · exact ⟨9, by omega, by omega, hx⟩
        · rcases List.mem_append.1 hx with hx | hx
          · exact ⟨10, by omega, by omega, hx⟩
          · exact ⟨11, by omega, by omega, hx⟩
    obtain ⟨z, hz, rfl⟩ := s.co.prec x hk
    refine List.mem_map.2 ⟨z, List.mem_append.2 ((hA z hz).imp id fun h => List.mem_range'_1.2 ⟨h.1, by omega⟩), rfl⟩
  unfold Blk
  simp only [List.length_append, List.length_map, List.length_range'] at hlen
  omega
theorem regs_len {e : Int} (i : Inv e G H R) : ∀ n, Wh (H.shadeRegsR G R n) + (H.shadeRegsR G R n 12).length = Wh R + (R 12).length ∧ Blk (H.shadeRegsR G R n) = Blk R
  | 0 => ⟨rfl, rfl⟩
  | n + 1 => by
    obtain ⟨e1, e2⟩ := regs_len i n
    obtain ⟨i1, -⟩ := inv_regs i n
    have hr := i1.wrd n
    obtain ⟨f1, f2⟩ := shade_len i1 hr.1 hr.2
    exact ⟨f1.trans e1, f2.trans e2⟩
/-- at a flip all that is had becomes white, or waits -/
theorem Safe.flip_len (s : Safe e G H R M A D) (hm : H.mrk = false) : Blk (H.incR G R) = 0 ∧ Tt (H.incR G R) = Tt R := by
  obtain ⟨i0, -⟩ := inv_flip0 s.inv hm
  obtain ⟨hw, h12, -⟩ := s.inv.idle hm
  have e2 : H.incR G R = H.flipR G R := by rw [Hp.incR, hm]; rfl
  obtain ⟨f1, f2⟩ := regs_len i0 12
  have A := flipsR_at R 4 (by omega)
  have B4 : ∀ j, 4 ≤ j → j < 8 → flipsR R 4 j = R (j + 4) := fun j h4 h8 => by rw [A, if_pos ⟨h4, by omega⟩, hw j h4 h8]; rfl
  have B8 : ∀ j, 8 ≤ j → j < 12 → flipsR R 4 j = [] := fun j h4 h8 => by rw [A, if_neg (by omega), if_pos ⟨h4, by omega⟩]
  have B12 : flipsR R 4 12 = [] := by rw [A, if_neg (by omega), if_neg (by omega), h12]
  have hb : Blk (flipsR R 4) = 0 := by
    unfold Blk
    rw [B8 8 (by omega) (by omega), B8 9 (by omega) (by omega), B8 10 (by omega) (by omega), B8 11 (by omega) (by omega)]
    rfl
  have hwh : Wh (flipsR R 4) = Blk R := by
    unfold Wh Blk
    rw [B4 4 (by omega) (by omega), B4 5 (by omega) (by omega), B4 6 (by omega) (by omega), B4 7 (by omega) (by omega)]
  have hw0 : Wh R = 0 := by
    unfold Wh
    rw [hw 4 (by omega) (by omega), hw 5 (by omega) (by omega), hw 6 (by omega) (by omega), hw 7 (by omega) (by omega)]
    rfl
  rw [e2]
  unfold Hp.flipR Tt
  rw [f1, f2, hb, hwh, hw0, B12, h12]
  exact ⟨rfl, by simp⟩
/-- at a cycle's end just the blacks are had -/
theorem Safe.end_len (s : Safe e G H R M A D) (hm : H.mrk = true) (h12 : R 12 = []) : Tt (H.incR G R) = Blk R := by
  have e2 : H.incR G R = endsR R 4 := by
    rcases s.inv.first with ⟨-, hf⟩ | ⟨x, l, h, -, -⟩
    · rw [Hp.incR, hm, if_pos rfl, if_pos hf]
    · rw [h12] at h
      cases h
  have A := endsR_at R 4 (by omega)
  have A4 : ∀ j, 4 ≤ j → j < 8 → endsR R 4 j = [] := fun j h4 h8 => by rw [A, if_neg (by omega), if_pos ⟨h4, by omega⟩]
  have A8 : ∀ j, 8 ≤ j → endsR R 4 j = R j := fun j h => by rw [A, if_neg (by omega), if_neg (by omega)]
  rw [e2]
  unfold Tt Wh Blk
  rw [A4 4 (by omega) (by omega), A4 5 (by omega) (by omega), A4 6 (by omega) (by omega), A4 7 (by omega) (by omega), A8 12 (by omega), A8 8 (by omega), A8 9 (by omega), A8 10 (by omega), A8 11 (by omega), h12]
  simp
/-- a cell that is taken is black -/
theorem take_len {e : Int} (i : Inv e G H R) {c : Nat} (hc : c < 4) (h : H.fre.at_ c ≠ 0) : Blk (H.allocR R c) = Blk R + 1 ∧ Tt (H.allocR R c) = Tt R + 1 := by
  obtain ⟨l, hl⟩ := i.free_cons hc h
  have hb : H.firstFree c ∈ R c := by rw [hl]; simp
  obtain ⟨a1, a2, a3⟩ := mvR_len i (h := c) (k := 8 + c) (by omega) hb (by omega)
  have hw : Wh (H.allocR R c) = Wh R := by
    unfold Wh Hp.allocR
    rw [a3 4 (by omega) (by omega), a3 5 (by omega) (by omega), a3 6 (by omega) (by omega), a3 7 (by omega) (by omega)]
  have h12 : (H.allocR R c 12).length = (R 12).length := a3 12 (by omega) (by omega)
  have hk : Blk (H.allocR R c) = Blk R + 1 := by
    unfold Blk Hp.allocR
    rcases lt4 hc with rfl | rfl | rfl | rfl
    · rw [a3 9 (by omega) (by omega), a3 10 (by omega) (by omega), a3 11 (by omega) (by omega)]
      have : (mvR R 0 (8 + 0) (H.firstFree 0) 8).length = (R 8).length + 1 := a2
      show (mvR R 0 (8 + 0) (H.firstFree 0) 8).length + _ + _ + _ = _
      omega
    · rw [a3 8 (by omega) (by omega), a3 10 (by omega) (by omega), a3 11 (by omega) (by omega)]
      have : (mvR R 1 (8 + 1) (H.firstFree 1) 9).length = (R 9).length + 1 := a2
      show _ + (mvR R 1 (8 + 1) (H.firstFree 1) 9).length + _ + _ = _
      omega
    · rw [a3 8 (by omega) (by omega), a3 9 (by omega) (by omega), a3 11 (by omega) (by omega)]
      have : (mvR R 2 (8 + 2) (H.firstFree 2) 10).length = (R 10).length + 1 := a2
      show _ + _ + (mvR R 2 (8 + 2) (H.firstFree 2) 10).length + _ = _
      omega
    · rw [a3 8 (by omega) (by omega), a3 9 (by omega) (by omega), a3 10 (by omega) (by omega)]
      have : (mvR R 3 (8 + 3) (H.firstFree 3) 11).length = (R 11).length + 1 := a2
      show _ + _ + _ + (mvR R 3 (8 + 3) (H.firstFree 3) 11).length = _
      omega
  exact ⟨hk, by unfold Tt; omega⟩

/-- of L things at most that are reached: what is had, j increments into an allocation of k; Q is at least L by k -/
def Rk (L Q k j N : Nat) : Gk := fun H R A _ =>
  (H.mrk = true → ∃ (t m T : Nat) (S : List Nat), S.length ≤ L ∧ m ≤ N ∧ (∀ i, A i → i ∈ S ∨ (N - m ≤ i ∧ i < N)) ∧ Blk R = t + m ∧ m * k + j ≤ t + k ∧ Tt R ≤ T + m ∧ T ≤ L + Q + 2) ∧
  (H.mrk = false → Tt R ≤ L + Q + if j = 0 then 2 else 1)
theorem few_made {t m : Nat} (hk : 1 ≤ k) (hQ : L ≤ Q * k) (ht : t ≤ L) (h : m * k + j ≤ t + k) : m ≤ Q + 1 := by
  refine Nat.le_of_mul_le_mul_right (c := k) ?_ (by omega)
  rw [Nat.add_mul, Nat.one_mul]
  omega
theorem Rk.inc (hk : 1 ≤ k) (hQ : L ≤ Q * k) (hw : Plain M n) (hL : ∃ S : List Nat, S.length ≤ L ∧ ∀ i, Reach M i → i ∈ S) (hj : j < k) (h : Gk.inc G M ((Rk L Q k j N).low n) H R A D) : Rk L Q k (j + 1) N H R A D := by
  obtain ⟨e1, H1, R1, A1, D1, ⟨⟨k1, k2⟩, hl⟩, s, rfl, rfl, h3, h4⟩ := h
  cases hm : H1.mrk
  · obtain ⟨a, b, d⟩ := h4 hm
    obtain ⟨f1, f2⟩ := s.flip_len hm
    obtain ⟨S, hS, hR⟩ := hL
    have := k2 hm
    refine ⟨fun _ => ⟨0, 0, Tt R1, S, hS, by omega, fun i hi => .inl (hR i (by rw [a] at hi; exact hi)), by rw [f1], by omega, by rw [f2]; omega, ?_⟩, fun h => (by rw [d] at h; cases h)⟩
    split at this <;> omega
  · obtain ⟨t, m, T, S, c1, c2, c3, c4, c5, c6, c7⟩ := k1 hm
    have hbl := s.blk_le c2 c3
    have hmQ := few_made hk hQ (t := t) (m := m) (j := j) (by omega) c5
    have hA := (h3 hm).1
    rcases s.step hm (fun i hi => hw i (hl i (s.ct.sub i hi))) with ⟨h12, a, -⟩ | ⟨a, b, d⟩
    · have := s.end_len hm h12
      refine ⟨fun h => (by rw [a] at h; cases h), fun _ => ?_⟩
      rw [this, if_neg (by omega)]
      omega
    · refine ⟨fun _ => ⟨t + 1, m, T, S, c1, c2, by rw [hA]; exact c3, by omega, by omega, ?_, c7⟩, fun h => (by rw [d] at h; cases h)⟩
      unfold Tt at c6 ⊢
      omega
theorem Rk.incs (hk : 1 ≤ k) (hQ : L ≤ Q * k) (hw : Plain M n) (hL : ∃ S : List Nat, S.length ≤ L ∧ ∀ i, Reach M i → i ∈ S) : ∀ (j : Nat), j ≤ k → ∀ {H : Hp} {R : Nat → List Int} {A D : Nat → Prop}, Gk.incs G M ((Rk L Q k 0 N).low n) j H R A D → (Rk L Q k j N).low n H R A D
  | 0, _, _, _, _, _, h => h
  | j + 1, hj, _, _, _, _, h => by
    have h' := Gk.inc_mono (fun _ _ _ _ h => Rk.incs hk hQ hw hL j (by omega) h) h
    exact ⟨Rk.inc hk hQ hw hL hj h', (Gk.inc_low h').2⟩
theorem Rk.quiet (h : (Rk L Q k j N).quiet H R A D) : Rk L Q k j N H R A D := by
  obtain ⟨H1, R1, ⟨k1, k2⟩, h3, h4, h5, h6⟩ := h
  have hT : Tt R = Tt R1 := by unfold Tt; omega
  refine ⟨fun hm => ?_, fun hm => ?_⟩
  · obtain ⟨t, m, T, S, c1, c2, c3, c4, c5, c6, c7⟩ := k1 (by rw [← h3]; exact hm)
    exact ⟨t, m, T, S, c1, c2, c3, by rw [h6]; exact c4, c5, by rw [hT]; exact c6, c7⟩
  · rw [hT]
    exact k2 (by rw [← h3]; exact hm)
theorem Rk.take {K : Gk} (hk : 1 ≤ k) (hK : ∀ H R A D, K H R A D → Rk L Q k k N H R A D) (h : Gk.take G M f n N K H R A D) : Rk L Q k 0 (N + 1) H R A D := by
  obtain ⟨e1, H1, R1, A1, D1, kk, s, hf, rfl, rfl, rfl, rfl⟩ := h
  obtain ⟨k1, k2⟩ := hK _ _ _ _ kk
  obtain ⟨t1, t2⟩ := take_len s.inv (cln_lt (n : Int)) hf
  refine ⟨fun hm => ?_, fun hm => ?_⟩
  · obtain ⟨t, m, T, S, c1, c2, c3, c4, c5, c6, c7⟩ := k1 hm
    refine ⟨t, m + 1, T, S, c1, by omega, fun i hi => ?_, by rw [t1]; omega, by rw [Nat.add_mul, Nat.one_mul]; omega, by rw [t2]; omega, c7⟩
    rcases hi with hi | rfl
    · exact (c3 i hi).imp id fun h => ⟨by omega, by omega⟩
    · exact .inr ⟨by omega, by omega⟩
  · have := k2 hm
    rw [if_neg (by omega)] at this
    rw [t2, if_pos rfl]
    omega
/-- no allocation is refused -/
theorem Rk.room (hk : 1 ≤ k) (hQ : L ≤ Q * k) (s : Safe e G H R M A D) (h : Rk L Q k j N H R A D) {c : Nat} (hc : c < 4) (hn : (2 * L + 2 * Q + 16 : Nat) ≤ G.n.at_ c) : H.fre.at_ c ≠ 0 := by
  intro h0
  have hT : Tt R ≤ L + 2 * Q + 3 := by
    cases hm : H.mrk
    · have := h.2 hm
      split at this <;> omega
    · obtain ⟨t, m, T, S, c1, c2, c3, c4, c5, c6, c7⟩ := h.1 hm
      have hbl := s.blk_le c2 c3
      have := few_made hk hQ (t := t) (m := m) (j := j) (by omega) c5
      omega
  have hcount := s.inv.count hc
  have hf := s.inv.frec c hc
  have hfl : G.fl c (R 12) ≤ (R 12).length := List.length_filter_le _ _
  unfold Tt Wh Blk at hT
  rcases lt4 hc with rfl | rfl | rfl | rfl
  · have e1 : (R (4 + 0)).length = (R 4).length := rfl
    have e2 : (R (8 + 0)).length = (R 8).length := rfl
    omega
  · have e1 : (R (4 + 1)).length = (R 5).length := rfl
    have e2 : (R (8 + 1)).length = (R 9).length := rfl
    omega
  · have e1 : (R (4 + 2)).length = (R 6).length := rfl
    have e2 : (R (8 + 2)).length = (R 10).length := rfl
    omega
  · have e1 : (R (4 + 3)).length = (R 7).length := rfl
    have e2 : (R (8 + 3)).length = (R 11).length := rfl
    omega
end
end Go.Proofs.YtclcnepkgjcmcaaDoor
