/- Completeness: how many of some things are of a size; those handed out by a range over a map. Plain mathematics. -/
import Derived.Test.YtclcnepkgjcmcaaGreatDoorQ46
import Derived.Test.YtclcnepkgjcmcaaGreatDoorQ39
namespace Go.Proofs.YtclcnepkgjcmcaaGreatDoor
open Go.RowKit

/-- how many of some things are of a size -/
def cntc (M : Md) (c : Nat) (L : List Nat) : Nat := (L.filter fun i => cln (M.len i) == c).length
/-- how many of those at some places are -/
def posc (M : Md) (L : List Nat) (c : Nat) (ps : List Nat) : Nat := (ps.filter fun j => cln (M.len (L.getD j 0)) == c).length
theorem posc_snoc (M : Md) (L : List Nat) (c : Nat) (ps : List Nat) (j : Nat) : posc M L c (ps ++ [j]) = posc M L c ps + if cln (M.len (L.getD j 0)) = c then 1 else 0 := by
  unfold posc
  rw [List.filter_append, List.length_append]
  congr 1
  by_cases h : cln (M.len (L.getD j 0)) = c
  · rw [if_pos h, List.filter_cons_of_pos (by simpa using h)]; rfl
  · rw [if_neg h, List.filter_cons_of_neg (by simpa using h)]; rfl
theorem range_getD : ∀ L : List Nat, (List.range L.length).map (fun j => L.getD j 0) = L := fun L => by
  apply List.ext_getElem
  · simp
  · intro i h1 h2
    simp [List.getD, h2]
theorem posc_all (M : Md) (L : List Nat) (c : Nat) {ps : List Nat} (hn : ps.Nodup) (hlt : ∀ j ∈ ps, j < L.length) (hall : ∀ j, j < L.length → j ∈ ps) : posc M L c ps = cntc M c L := by
  have hp : ps.Perm (List.range L.length) := (List.perm_ext_iff_of_nodup hn List.nodup_range).2 fun j => by
    rw [List.mem_range]
    exact ⟨hlt j, hall j⟩
  unfold posc cntc
  rw [(hp.filter _).length_eq]
  conv => rhs; rw [← range_getD L, List.filter_map, List.length_map]
  rfl
theorem posc_le (M : Md) (L : List Nat) (c : Nat) (ps : List Nat) : posc M L c ps ≤ ps.length := List.length_filter_le _ _
/-- of things that are all different, and the same as some others, as many -/
theorem cntc_len (M : Md) (c : Nat) (L : List Nat) : cntc M c L ≤ L.length := List.length_filter_le _ _
end Go.Proofs.YtclcnepkgjcmcaaGreatDoor

/- Completeness: what is known of the heap amid TreadFlip's loops of increments; the law's world pinned. -/
namespace Go.Proofs.YtclcnepkgjcmcaaGreatDoor
open Go.RowKit

theorem least_ex (P : Nat → Prop) : (∃ n, P n) → ∃ m, P m ∧ ∀ k, P k → m ≤ k := by
  rintro ⟨n, hn⟩
  induction n using Nat.strongRecOn with
  | _ n ih =>
    by_cases h : ∃ k, k < n ∧ P k
    · obtain ⟨k, hk, hp⟩ := h
      exact ih k hk hp
    · exact ⟨n, hn, fun k hk => Nat.le_of_not_lt fun hl => h ⟨k, hl, hk⟩⟩
open Classical in
/-- the least of some numbers -/
noncomputable def leastN (P : Nat → Prop) : Nat := if h : ∃ m, P m ∧ ∀ k, P k → m ≤ k then Classical.choose h else 0
theorem leastN_spec {P : Nat → Prop} (h : ∃ n, P n) : P (leastN P) ∧ ∀ k, P k → leastN P ≤ k := by
  have h' := least_ex P h
  unfold leastN
  rw [dif_pos h']
  exact Classical.choose_spec h'
section
variable {c e : Int} {A0 A D : Nat → Prop} {N0 N m n k : Nat} {R : Nat → List Int} {H : Hp} {G : Geo} {M : Md}
theorem Inv.few (i : Inv e G H R) (hk : k < 13) : (R k).length ≤ 1048577 := by
  have h : (R k).length ≤ ((List.range 1048577).map Int.ofNat).length := nodup_le _ _ (i.rg.nodup k hk) fun x hx => by
    have hC := i.rg.place k hk x hx
    have := Geo.extent i.ok hC
    have := ln_lo (G.cls x)
    have := i.ok.lines
    refine List.mem_map.2 ⟨x.toNat, ?_, ?_⟩
    · rw [List.mem_range]; omega
    · show ((x.toNat : Nat) : Int) = x
      omega
  simpa using h
theorem Inv.few_wh (i : Inv e G H R) : Wh R + (R 12).length ≤ 6000000 := by
  have h4 := i.few (k := 4) (by omega)
  have h5 := i.few (k := 5) (by omega)
  have h6 := i.few (k := 6) (by omega)
  have h7 := i.few (k := 7) (by omega)
  have h8 := i.few (k := 12) (by omega)
  unfold Wh
  omega
/-- fewer than n are white or tasks, while it marks -/
def Mk (n : Nat) : Gk := fun H R _ _ => H.mrk = true → Wh R + (R 12).length < n
theorem Mk.inc (hw : Plain M m) (h : Gk.inc G M (Gk.low (fun H R A D => Mk n H R A D ∧ H.mrk = true) m) H R A D) : Mk (n - 1) H R A D ∧ 1 ≤ n := by
  obtain ⟨e1, H1, R1, A1, D1, ⟨⟨k, hm⟩, hl⟩, s, rfl, rfl, h3, h4⟩ := h
  have := k hm
  rcases s.step hm (fun i hi => hw i (hl i (s.ct.sub i hi))) with ⟨-, a, -⟩ | ⟨a, -, -⟩
  · exact ⟨fun h => (by rw [a] at h; cases h), by omega⟩
  · exact ⟨fun _ => by omega, by omega⟩
/-- within the cycle that the flip began -/
def K3 (c : Int) (A0 : Nat → Prop) (N0 N : Nat) : Gk := fun H _ A _ => H.cyc = c ∧ H.mrk = true ∧ ∀ i, A i ↔ (A0 i ∨ (N0 ≤ i ∧ i < N))
theorem K3.flip (h : Gk.inc G M (Gk.low (fun H _ _ _ => H.mrk = false ∧ H.cyc = c) m) H R A D) : K3 c (Reach M) m m H R A D := by
  obtain ⟨e1, H1, R1, A1, D1, ⟨⟨hm, hc⟩, hl⟩, s, rfl, rfl, h3, h4⟩ := h
  obtain ⟨a, b, d⟩ := h4 hm
  refine ⟨(s.flip_cyc hm).trans hc, d, fun i => ?_⟩
  rw [a]
  exact ⟨.inl, fun h => h.elim (fun h => h) (fun h => by omega)⟩
theorem K3.fk (h : K3 c A0 N0 N H R A D) : Fk c A0 N0 N H R A D := ⟨by rw [h.1]; exact Int.le_refl _, fun _ => h.2⟩
theorem K3.of_fk (h : Fk c A0 N0 N H R A D) (hc : H.cyc = c) : K3 c A0 N0 N H R A D := ⟨hc, h.2 hc⟩
/-- to the cycle's end -/
def K4 (c : Int) (L : List Nat) (n : Nat) : Gk := fun H R A _ => (H.cyc = c → H.mrk = true ∧ Wh R + (R 12).length < n) ∧ (H.cyc ≠ c → H.mrk = false) ∧ ∀ i, i ∈ L ↔ A i
theorem K4.inc {L : List Nat} (hw : Plain M m) (h : Gk.inc G M (Gk.low (fun H R A D => K4 c L n H R A D ∧ H.cyc = c) m) H R A D) : K4 c L (n - 1) H R A D ∧ 1 ≤ n := by
  obtain ⟨e1, H1, R1, A1, D1, ⟨⟨⟨k1, -, k3⟩, hc⟩, hl⟩, s, rfl, rfl, h3, h4⟩ := h
  obtain ⟨hm, hlt⟩ := k1 hc
  have hA : ∀ i, A1 i → M.form i ≠ 3 := fun i hi => hw i (hl i (s.ct.sub i hi))
  have hE := (h3 hm).1
  rcases s.step hm hA with ⟨-, a, b⟩ | ⟨a, -, b⟩
  · exact ⟨⟨fun h => (by rw [b, hc] at h; omega), fun _ => a, by rw [hE]; exact k3⟩, by omega⟩
  · have hc2 := (s.step_cyc hm hA).1 b
    exact ⟨⟨fun _ => ⟨b, by omega⟩, fun h => absurd (hc2.trans hc) h, by rw [hE]; exact k3⟩, by omega⟩
end
section
variable {w w' : World} {x q p b : Nat} {e : Int} {G : Geo} {M : Md} {N B : Nat} {blk : Nat → Nat} {fv : Nat → Value} {al : Value} {bad full : Bool} {K : Gk}
theorem Ws.low_ (s : Ws w x q p b e G M N B blk fv al bad full K) : Ws w x q p b e G M N B blk fv al bad full (K.low N) := by
  obtain ⟨H, R, A, D, h1, hs, hk⟩ := s.heap
  exact ⟨s.cells, s.things, s.all, ⟨H, R, A, D, h1, hs, ⟨hk, hk.2⟩⟩, s.lq, s.lp, s.lb, s.lx, s.apart, s.high, s.sz⟩
theorem Ws.with_ (s : Ws w x q p b e G M N B blk fv al bad full K) {K' : Gk} (h : ∀ H R A D, Safe e G H R M A D → K H R A D → K' H R A D) : Ws w x q p b e G M N B blk fv al bad full K' := by
  obtain ⟨H, R, A, D, h1, hs, hk⟩ := s.heap
  exact ⟨s.cells, s.things, s.all, ⟨H, R, A, D, h1, hs, ⟨h _ _ _ _ hs hk.1, hk.2⟩⟩, s.lq, s.lp, s.lb, s.lx, s.apart, s.high, s.sz⟩
/-- a number that hangs on the heap, for some ghost of it -/
theorem Ws.some_ {α : Type} (s : Ws w x q p b e G M N B blk fv al bad full K) (f : Hp → (Nat → List Int) → α) : ∃ a, (∃ H R A D, Safe e G H R M A D ∧ K H R A D ∧ f H R = a) ∧ Ws w x q p b e G M N B blk fv al bad full (fun H R A D => K H R A D ∧ f H R = a) := by
  obtain ⟨H, R, A, D, h1, hs, hk⟩ := s.heap
  exact ⟨f H R, ⟨H, R, A, D, hs, hk.1, rfl⟩, s.cells, s.things, s.all, ⟨H, R, A, D, h1, hs, ⟨⟨hk.1, rfl⟩, hk.2⟩⟩, s.lq, s.lp, s.lb, s.lx, s.apart, s.high, s.sz⟩
theorem Ws.marking (s : Ws w x q p b e G M N B blk fv al bad full K) :
    Calls Tryz.prog 9 #[.pointer (some ⟨q, 0, none⟩)] w fun r w' => w = w' ∧ ∃ m, r = .returned (.bool m) ∧ Ws w x q p b e G M N B blk fv al bad full (fun H R A D => K H R A D ∧ H.mrk = m) := by
  obtain ⟨H, R, A, D, h1, hs, hk⟩ := s.heap
  refine (Marking_any w h1).mono ?_
  rintro r w' ⟨rfl, rfl⟩
  exact ⟨rfl, H.mrk, rfl, s.cells, s.things, s.all, ⟨H, R, A, D, h1, hs, ⟨⟨hk.1, rfl⟩, hk.2⟩⟩, s.lq, s.lp, s.lb, s.lx, s.apart, s.high, s.sz⟩
theorem Ws.cycles (s : Ws w x q p b e G M N B blk fv al bad full K) :
    Calls Tryz.prog 12 #[.pointer (some ⟨q, 0, none⟩)] w fun r w' => w = w' ∧ ∃ c : Int, r = .returned (.int .i64 c) ∧ Ws w x q p b e G M N B blk fv al bad full (fun H R A D => K H R A D ∧ H.cyc = c) := by
  obtain ⟨H, R, A, D, h1, hs, hk⟩ := s.heap
  refine (Cycles_any w h1).mono ?_
  rintro r w' ⟨rfl, rfl⟩
  exact ⟨rfl, H.cyc, rfl, s.cells, s.things, s.all, ⟨H, R, A, D, h1, hs, ⟨⟨hk.1, rfl⟩, hk.2⟩⟩, s.lq, s.lp, s.lb, s.lx, s.apart, s.high, s.sz⟩
theorem Ws.inc1 (s : Ws w x q p b e G M N B blk fv al bad full K) (he : e + 1 ≤ 1000000000) :
    Calls Tryz.prog 10 #[.pointer (some ⟨q, 0, none⟩), .int .i64 1] w fun r w' => r = .returned (.tuple #[]) ∧ Ws w' x q p b (e + 1) G M N B blk fv al bad full (Gk.inc G M (K.low N)) ∧ Turns (Own3 q p b) w w' :=
  show Calls _ _ #[.pointer (some ⟨q, 0, none⟩), .int .i64 ((1 : Nat) : Int)] w _ from s.low_.incs 1 (by omega) he
/-- the cycle is at its end: what is free -/
theorem Ws.free_end {L : List Nat} (s : Ws w x q p b e G M N B blk fv al bad full (fun H _ A _ => H.mrk = false ∧ ∀ i, i ∈ L ↔ A i)) (hL : L.Nodup) {c : Nat} (hc : c < 4) :
    Calls Tryz.prog 14 #[.pointer (some ⟨q, 0, none⟩), .int .i64 c] w fun r w' => r = .returned (.int .i64 (G.n.at_ c - cntc M c L)) ∧ w = w' := by
  obtain ⟨H, R, A, D, h1, hs, hk⟩ := s.heap
  have := hs.free hk.1.1 hc L hL hk.1.2
  refine (Free_any c hc w h1).mono ?_
  rintro r w' ⟨rfl, rfl⟩
  exact ⟨by rw [this]; rfl, rfl⟩
/-- what may be reached has at most 127 fields, and was made -/
theorem Ws.lens {L : List Nat} (s : Ws w x q p b e G M N B blk fv al bad full (fun H _ A _ => H.mrk = false ∧ ∀ i, i ∈ L ↔ A i)) : ∀ i ∈ L, M.len i ≤ 127 ∧ i < N := by
  obtain ⟨H, R, A, D, h1, hs, hk⟩ := s.heap
  intro i hi
  have hA := (hk.1.2 i).1 hi
  have := (hs.ct.mark i hA).2
  have := (msize_bd (gv H.ws (M.cell i))).2
  exact ⟨by omega, hk.2 i (hs.ct.sub i hA)⟩
theorem Ws.mapset {g : Nat} {ks : List Nat} (s : Ws w x q p b e G M N B blk fv al bad full K) (k : PMap w g ks) (hr : B ≤ g) (t : Turns (fun k => k = g) w w') : Ws w' x q p b e G M N B blk fv al bad full K := by
  obtain ⟨H, R, A, D, h, hs, hk⟩ := s.heap
  have := s.lq; have := s.lp; have := s.lb
  exact ⟨s.cells.turns t (fun e => by have := s.lx; omega), s.things.turns t (fun i hi e => k.apart (s.things.here i hi) e.symm) (fun i hi g hg => row_not_map (s.things.rows i hi) k g hg), s.all.turns t (fun g hg => row_not_map s.all k g hg), ⟨H, R, A, D, h.turns t (fun e => by omega) (fun e => by omega) (fun e => by omega) (fun e => by have := h.apart; omega), hs, hk⟩, s.lq, s.lp, s.lb, s.lx, s.apart, s.high, Nat.le_trans s.sz t.size⟩
/-- a thing's block goes into the map -/
theorem Ws.liveput {g i : Nat} {L : List Nat} (s : Ws w x q p b e G M N B blk fv al bad full K) (k : PMap w g (L.map blk)) (hr : B ≤ g) (hi : i < N) (hL : ∀ j ∈ L, j < N) (hn : i ∉ L) :
    ∃ w', (Instr.mapUpdate 44 (.map (some g)) (.pointer (some ⟨blk i, 0, none⟩)) (.bool true)).run Tryz.prog w = .ok () w' ∧ PMap w' g ((L ++ [i]).map blk) ∧ Ws w' x q p b e G M N B blk fv al bad full K ∧ Turns (fun k => k = g) w w' := by
  have hth : Thingy w (L.map blk) := fun y hy => by
    obtain ⟨j, hj, rfl⟩ := List.mem_map.1 hy
    exact ⟨_, s.things.here j (hL j hj)⟩
  have hni : blk i ∉ L.map blk := fun h => by
    obtain ⟨j, hj, e⟩ := List.mem_map.1 h
    rw [s.things.inj j i (hL j hj) hi e] at hj
    exact hn hj
  have hrun := run_put_ptr w (s.things.here i hi) k hth hni
  have hp := k.put (blk i)
  have t : Turns (fun k => k = g) w (Go.ChangeMaps.setBlock w g (.map (entsFrom (L.map blk ++ [blk i]) 0).toArray (L.map blk ++ [blk i]).length)) := Turns.setBlock (X := fun k => k = g) (Turns.refl _ _) (fun _ => rfl) _
  refine ⟨_, hrun, ?_, s.mapset k hr t, t⟩
  rw [List.map_append]
  exact hp
end
/-- those of the flip, and the first j of those made since -/
theorem mem_live (is : List Nat) (N0 j i : Nat) : i ∈ is ++ List.range' N0 j ↔ i ∈ is ∨ (N0 ≤ i ∧ i < N0 + j) := by
  rw [List.mem_append, List.mem_range'_1]
theorem nodup_live {is : List Nat} {N0 : Nat} (h : is.Nodup) (hl : ∀ i ∈ is, i < N0) (j : Nat) : (is ++ List.range' N0 j).Nodup :=
  List.nodup_append.2 ⟨h, List.nodup_range', fun a ha b hb => by
    have := hl a ha
    have := (List.mem_range'_1.1 hb).1
    omega⟩
theorem live_snoc (is : List Nat) (N0 j : Nat) : is ++ List.range' N0 (j + 1) = (is ++ List.range' N0 j) ++ [N0 + j] := by
  rw [List.range'_concat, List.append_assoc, Nat.one_mul]
end Go.Proofs.YtclcnepkgjcmcaaGreatDoor
