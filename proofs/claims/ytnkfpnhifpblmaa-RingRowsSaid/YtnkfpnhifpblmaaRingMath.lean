/- Rings within words, as lists: what the writes of Init, Insert, Remove and Join do to them. Plain mathematics. -/
import Derived.Test.YtnkfpnhifpblmaaSt
namespace Go.Proofs.Ytnkfpnhifpblmaa

theorem gv_sv {xs : List Int} {i : Int} (v j : Int) (hi : inside xs.length i = true) : gv (sv xs i v) j = if j = i then v else gv xs j := by
  obtain ⟨h0, h1⟩ := inside_yes hi
  obtain ⟨n, rfl⟩ := Int.eq_ofNat_of_zero_le h0
  rw [sv, if_pos hi, Int.toNat_natCast]
  by_cases hj : j = n
  · subst hj
    rw [if_pos rfl, gv, List.length_set, if_pos hi, Int.toNat_natCast]
    simp [show n < xs.length by omega]
  · rw [if_neg hj, gv, gv, List.length_set]
    cases hk : inside xs.length j
    · simp
    · obtain ⟨k0, k1⟩ := inside_yes hk
      obtain ⟨m, rfl⟩ := Int.eq_ofNat_of_zero_le k0
      have : n ≠ m := by omega
      simp [List.getD_eq_getElem?_getD, this]

/-- a place of which all three words lie within n -/
def Pl (n : Nat) (a : Int) : Prop := 0 ≤ a ∧ a + 2 < n ∧ a % 3 = 0
/-- a's behind is z, and z's ahead is a -/
def Lk (xs : List Int) (a z : Int) : Prop := gv xs (a + 2) = z ∧ gv xs (z + 1) = a
/-- behind a stand those of the list, in order, then z -/
def Path (xs : List Int) : Int → List Int → Int → Prop
  | a, [], z => Lk xs a z
  | a, x :: l, z => Lk xs a x ∧ Path xs x l z

section
variable {xs ys : List Int}

theorem Path.append : ∀ {l : List Int} {a x z : Int} {t : List Int}, Path xs a (l ++ x :: t) z ↔ Path xs a l x ∧ Path xs x t z
  | [], _, _, _, _ => by simp [Path]
  | y :: l, _, _, _, _ => by
    simp only [List.cons_append, Path]
    rw [Path.append (l := l)]
    exact ⟨fun ⟨h, h1, h2⟩ => ⟨⟨h, h1⟩, h2⟩, fun ⟨⟨h, h1⟩, h2⟩ => ⟨h, h1, h2⟩⟩
/-- the words that a path speaks of -/
theorem Path.frame : ∀ {l : List Int} {a z : Int}, Path xs a l z → (∀ u ∈ a :: l, gv ys (u + 2) = gv xs (u + 2)) → (∀ u ∈ l, gv ys (u + 1) = gv xs (u + 1)) → gv ys (z + 1) = gv xs (z + 1) → Path ys a l z
  | [], a, z, h, h2, _, hz => ⟨(h2 a (by simp)).trans h.1, hz.trans h.2⟩
  | x :: l, a, z, h, h2, h1, hz =>
    ⟨⟨(h2 a (by simp)).trans h.1.1, (h1 x (by simp)).trans h.1.2⟩, Path.frame h.2 (fun u hu => h2 u (by simp at hu ⊢; exact .inr hu)) (fun u hu => h1 u (by simp [hu])) hz⟩
theorem Path.last_mem : ∀ {l : List Int} {a z : Int}, Path xs a l z → gv xs (z + 1) ∈ a :: l
  | [], a, z, h => by simp [h.2]
  | x :: l, a, z, h => List.mem_cons_of_mem _ (Path.last_mem h.2)
theorem Path.next_mem : ∀ {l : List Int} {a z : Int}, Path xs a l z → ∀ u ∈ a :: l, gv xs (u + 2) = z ∨ gv xs (u + 2) ∈ l
  | [], a, z, h, u, hu => by
    simp at hu
    subst hu
    exact .inl h.1
  | x :: l, a, z, h, u, hu => by
    rcases List.mem_cons.1 hu with rfl | hu
    · exact .inr (by simp [h.1.1])
    · rcases Path.next_mem h.2 u hu with h' | h'
      · exact .inl h'
      · exact .inr (List.mem_cons_of_mem _ h')
/-- the last of a path led elsewhere -/
theorem Path.retarget : ∀ {l : List Int} {a z z' : Int}, Path xs a l z → (a :: l).Nodup → gv ys (gv xs (z + 1) + 2) = z' → gv ys (z' + 1) = gv xs (z + 1) →
    (∀ u ∈ a :: l, u ≠ gv xs (z + 1) → gv ys (u + 2) = gv xs (u + 2)) → (∀ u ∈ l, gv ys (u + 1) = gv xs (u + 1)) → Path ys a l z'
  | [], a, z, z', h, _, h1, h2, _, _ => by
    rw [h.2] at h1 h2
    exact ⟨h1, h2⟩
  | x :: l, a, z, z', h, hn, h1, h2, k2, k1 => by
    have hm := Path.last_mem h.2
    have hne : a ≠ gv xs (z + 1) := fun e => (List.nodup_cons.1 hn).1 (e ▸ hm)
    exact ⟨⟨(k2 a (by simp) hne).trans h.1.1, (k1 x (by simp)).trans h.1.2⟩,
      Path.retarget h.2 (List.nodup_cons.1 hn).2 h1 h2 (fun u hu hne => k2 u (List.mem_cons_of_mem _ hu) hne) (fun u hu => k1 u (List.mem_cons_of_mem _ hu))⟩
end

/-- what the calls leave -/
def ini (xs : List Int) (b : Int) : List Int := sv (sv xs (b + 1) b) (b + 2) b
def ins (xs : List Int) (a b : Int) : List Int := sv (sv (sv (sv xs (b + 1) a) (b + 2) (gv xs (a + 2))) (a + 2) b) (gv xs (a + 2) + 1) b
def rem (xs : List Int) (b : Int) : List Int := ini (sv (sv xs (gv xs (b + 1) + 2) (gv xs (b + 2))) (gv xs (b + 2) + 1) (gv xs (b + 1))) b
def joi (xs : List Int) (a b : Int) : List Int :=
  if gv xs (b + 2) = b then xs else
    ini (sv (sv (sv (sv xs (gv xs (a + 1) + 2) (gv xs (b + 2))) (gv xs (b + 2) + 1) (gv xs (a + 1))) (gv xs (b + 1) + 2) a) (a + 1) (gv xs (b + 1))) b

theorem ini_length (xs : List Int) (b : Int) : (ini xs b).length = xs.length := by simp [ini, sv_length]
theorem ins_length (xs : List Int) (a b : Int) : (ins xs a b).length = xs.length := by simp [ins, sv_length]
theorem rem_length (xs : List Int) (b : Int) : (rem xs b).length = xs.length := by simp [rem, ini_length, sv_length]
theorem joi_length (xs : List Int) (a b : Int) : (joi xs a b).length = xs.length := by
  unfold joi
  split
  · rfl
  · simp [ini_length, sv_length]

section
variable {xs : List Int} {n : Nat} {a b : Int}
theorem Pl.in1 (h : Pl n a) : inside n (a + 1) = true := by
  obtain ⟨h0, h1, _⟩ := h
  simp [inside]
  omega
theorem Pl.in2 (h : Pl n a) : inside n (a + 2) = true := by
  obtain ⟨h0, h1, _⟩ := h
  simp [inside]
  omega
theorem gv_ini (hn : xs.length = n) (hb : Pl n b) (j : Int) : gv (ini xs b) j = if j = b + 2 then b else if j = b + 1 then b else gv xs j := by
  subst hn
  rw [ini, gv_sv _ _ (by rw [sv_length]; exact hb.in2), gv_sv _ _ hb.in1]
theorem gv_ins (hn : xs.length = n) (ha : Pl n a) (hb : Pl n b) (hx : Pl n (gv xs (a + 2))) (j : Int) :
    gv (ins xs a b) j = if j = gv xs (a + 2) + 1 then b else if j = a + 2 then b else if j = b + 2 then gv xs (a + 2) else if j = b + 1 then a else gv xs j := by
  subst hn
  rw [ins, gv_sv _ _ (by simp only [sv_length]; exact hx.in1), gv_sv _ _ (by simp only [sv_length]; exact ha.in2), gv_sv _ _ (by simp only [sv_length]; exact hb.in2), gv_sv _ _ hb.in1]
theorem gv_rem (hn : xs.length = n) (hb : Pl n b) (h1 : Pl n (gv xs (b + 1))) (h2 : Pl n (gv xs (b + 2))) (j : Int) :
    gv (rem xs b) j = if j = b + 2 then b else if j = b + 1 then b else if j = gv xs (b + 2) + 1 then gv xs (b + 1) else if j = gv xs (b + 1) + 2 then gv xs (b + 2) else gv xs j := by
  subst hn
  rw [rem, gv_ini (by simp only [sv_length]) hb, gv_sv _ _ (by simp only [sv_length]; exact h2.in1), gv_sv _ _ h1.in2]
theorem gv_joi (hn : xs.length = n) (ha : Pl n a) (hb : Pl n b) (hf : Pl n (gv xs (b + 2))) (hl : Pl n (gv xs (b + 1))) (hz : Pl n (gv xs (a + 1))) (hne : gv xs (b + 2) ≠ b) (j : Int) :
    gv (joi xs a b) j = if j = b + 2 then b else if j = b + 1 then b else if j = a + 1 then gv xs (b + 1) else if j = gv xs (b + 1) + 2 then a
      else if j = gv xs (b + 2) + 1 then gv xs (a + 1) else if j = gv xs (a + 1) + 2 then gv xs (b + 2) else gv xs j := by
  subst hn
  rw [joi, if_neg hne, gv_ini (by simp only [sv_length]) hb, gv_sv _ _ (by simp only [sv_length]; exact ha.in1), gv_sv _ _ (by simp only [sv_length]; exact hl.in2), gv_sv _ _ (by simp only [sv_length]; exact hf.in1), gv_sv _ _ hz.in2]
end

/-! The three heads 0, 3, 6, and what stands behind them. -/
structure Rg (n : Nat) (xs : List Int) (R : Int → List Int) : Prop where
  len : xs.length = n
  big : 9 ≤ n
  path : ∀ k, 0 ≤ k → k < 3 → Path xs (3 * k) (R k) (3 * k)
  place : ∀ k, 0 ≤ k → k < 3 → ∀ b ∈ R k, Pl n b ∧ 9 ≤ b
  nodup : ∀ k, 0 ≤ k → k < 3 → (R k).Nodup
  apart : ∀ j k, 0 ≤ j → j < 3 → 0 ≤ k → k < 3 → ∀ b, b ∈ R j → b ∈ R k → j = k

section
variable {n : Nat} {xs : List Int} {R : Int → List Int} {h k b : Int}
theorem Rg.head (g : Rg n xs R) (h0 : 0 ≤ k) (h1 : k < 3) : Pl n (3 * k) := by
  have := g.big
  exact ⟨by omega, by omega, by omega⟩
theorem Rg.pl (g : Rg n xs R) (h0 : 0 ≤ k) (h1 : k < 3) {u : Int} (hu : u ∈ 3 * k :: R k) : Pl n u := by
  rcases List.mem_cons.1 hu with rfl | hu
  · exact g.head h0 h1
  · exact (g.place k h0 h1 u hu).1
theorem Rg.nodup' (g : Rg n xs R) (h0 : 0 ≤ k) (h1 : k < 3) : (3 * k :: R k).Nodup :=
  List.nodup_cons.2 ⟨fun hm => by have := (g.place k h0 h1 _ hm).2; omega, g.nodup k h0 h1⟩
theorem Rg.next (g : Rg n xs R) (h0 : 0 ≤ k) (h1 : k < 3) {u : Int} (hu : u ∈ 3 * k :: R k) : gv xs (u + 2) ∈ 3 * k :: R k := by
  rcases (g.path k h0 h1).next_mem u hu with e | e
  · rw [e]; simp
  · exact List.mem_cons_of_mem _ e
theorem Rg.last (g : Rg n xs R) (h0 : 0 ≤ k) (h1 : k < 3) : gv xs (3 * k + 1) ∈ 3 * k :: R k := (g.path k h0 h1).last_mem
/-- of two heads' rings no one stands in both -/
theorem Rg.apart' (g : Rg n xs R) (h0 : 0 ≤ h) (h1 : h < 3) (k0 : 0 ≤ k) (k1 : k < 3) {u : Int} (hu : u ∈ 3 * h :: R h) (ku : u ∈ 3 * k :: R k) : h = k := by
  rcases List.mem_cons.1 hu with e | hu
  · rcases List.mem_cons.1 ku with e' | ku
    · omega
    · have := (g.place k k0 k1 u ku).2
      omega
  · rcases List.mem_cons.1 ku with e' | ku
    · have := (g.place h h0 h1 u hu).2
      omega
    · exact g.apart h k h0 h1 k0 k1 u hu ku

theorem Pl.ne12 {u v : Int} (hu : Pl n u) (hv : Pl n v) : u + 1 ≠ v + 2 ∧ v + 2 ≠ u + 1 := by
  have := hu.2.2
  have := hv.2.2
  omega

theorem ne_mem {u x : Int} {l : List Int} (hu : u ∈ l) (hx : x ∉ l) : u ≠ x := fun e => hx (e ▸ hu)

theorem rg_ins (g : Rg n xs R) (h0 : 0 ≤ h) (h1 : h < 3) (hb : Pl n b) (h9 : 9 ≤ b) (hno : ∀ k, 0 ≤ k → k < 3 → b ∉ R k) :
    Rg n (ins xs (3 * h) b) (fun k => if k = h then b :: R h else R k) := by
  have hp := g.path h h0 h1
  have hh := g.head h0 h1
  have hnx := g.next h0 h1 (u := 3 * h) (by simp)
  have hx := g.pl h0 h1 hnx
  have G := gv_ins g.len hh hb hx
  have hbn : ∀ k, 0 ≤ k → k < 3 → ∀ u ∈ 3 * k :: R k, u ≠ b := by
    intro k k0 k1 u hu e
    subst e
    rcases List.mem_cons.1 hu with e | hu
    · omega
    · exact hno k k0 k1 hu
  have b3 := hb.2.2
  have x3 := hx.2.2
  have xb := hbn h h0 h1 _ hnx
  refine ⟨by rw [ins_length, g.len], g.big, ?_, ?_, ?_, ?_⟩
  · intro k k0 k1
    by_cases hk : k = h
    · subst hk
      rw [if_pos rfl]
      refine ⟨⟨?_, ?_⟩, ?_⟩
      · rw [G, if_neg (by omega), if_pos rfl]
      · rw [G, if_neg (by omega), if_neg (by omega), if_neg (by omega), if_pos rfl]
      · cases hl : R k with
        | nil =>
          rw [hl] at hp
          have e : gv xs (3 * k + 2) = 3 * k := hp.1
          refine ⟨?_, ?_⟩
          · rw [G, if_neg (by omega), if_neg (by omega), if_pos rfl, e]
          · rw [G, if_pos (by rw [e])]
        | cons x t =>
          have hnd := g.nodup' h0 h1
          rw [hl] at hp hnd
          have e : gv xs (3 * k + 2) = x := hp.1.1
          obtain ⟨n1, n2⟩ := List.nodup_cons.1 hnd
          obtain ⟨n3, n4⟩ := List.nodup_cons.1 n2
          refine ⟨⟨?_, ?_⟩, ?_⟩
          · rw [G, if_neg (by omega), if_neg (by omega), if_pos rfl, e]
          · rw [G, if_pos (by rw [e])]
          · refine hp.2.frame ?_ ?_ ?_
            · intro u hu
              have hum : u ∈ 3 * k :: R k := by rw [hl]; exact List.mem_cons_of_mem _ hu
              have u3 := (g.pl k0 k1 hum).2.2
              have q1 := ne_mem hu n1
              have q2 := hbn k k0 k1 u hum
              rw [G, if_neg (by omega), if_neg (by omega), if_neg (by omega), if_neg (by omega)]
            · intro u hu
              have hum : u ∈ 3 * k :: R k := by rw [hl]; exact List.mem_cons_of_mem _ (List.mem_cons_of_mem _ hu)
              have u3 := (g.pl k0 k1 hum).2.2
              have q1 := ne_mem hu n3
              have q2 := hbn k k0 k1 u hum
              rw [G, if_neg (by omega), if_neg (by omega), if_neg (by omega), if_neg (by omega)]
            · have q1 : x ≠ 3 * k := fun e' => n1 (by rw [e']; simp)
              have q2 := hbn k k0 k1 (3 * k) (by simp)
              rw [G, if_neg (by omega), if_neg (by omega), if_neg (by omega), if_neg (by omega)]
    · rw [if_neg hk]
      have far : ∀ u ∈ 3 * k :: R k, u ≠ 3 * h ∧ u ≠ gv xs (3 * h + 2) ∧ u ≠ b ∧ u % 3 = 0 := fun u hu =>
        ⟨fun e => hk (g.apart' k0 k1 h0 h1 hu (by rw [e]; simp)), fun e => hk (g.apart' k0 k1 h0 h1 hu (by rw [e]; exact hnx)), hbn k k0 k1 u hu, (g.pl k0 k1 hu).2.2⟩
      have f2 : ∀ u ∈ 3 * k :: R k, gv (ins xs (3 * h) b) (u + 2) = gv xs (u + 2) := by
        intro u hu
        obtain ⟨q1, q2, q3, q4⟩ := far u hu
        rw [G, if_neg (by omega), if_neg (by omega), if_neg (by omega), if_neg (by omega)]
      have f1 : ∀ u ∈ 3 * k :: R k, gv (ins xs (3 * h) b) (u + 1) = gv xs (u + 1) := by
        intro u hu
        obtain ⟨q1, q2, q3, q4⟩ := far u hu
        rw [G, if_neg (by omega), if_neg (by omega), if_neg (by omega), if_neg (by omega)]
      exact (g.path k k0 k1).frame f2 (fun u hu => f1 u (List.mem_cons_of_mem _ hu)) (f1 _ (by simp))
  · intro k k0 k1 u hu
    by_cases hk : k = h
    · subst hk
      rw [if_pos rfl] at hu
      rcases List.mem_cons.1 hu with rfl | hu
      · exact ⟨hb, h9⟩
      · exact g.place k k0 k1 u hu
    · rw [if_neg hk] at hu
      exact g.place k k0 k1 u hu
  · intro k k0 k1
    by_cases hk : k = h
    · subst hk
      rw [if_pos rfl]
      exact List.nodup_cons.2 ⟨hno k k0 k1, g.nodup k k0 k1⟩
    · rw [if_neg hk]
      exact g.nodup k k0 k1
  · intro j k j0 j1 k0 k1 u hj hk
    by_cases e1 : j = h <;> by_cases e2 : k = h
    · omega
    · rw [if_pos e1] at hj
      rw [if_neg e2] at hk
      rcases List.mem_cons.1 hj with rfl | hj
      · exact absurd hk (hno k k0 k1)
      · subst e1
        exact g.apart j k j0 j1 k0 k1 u hj hk
    · rw [if_neg e1] at hj
      rw [if_pos e2] at hk
      rcases List.mem_cons.1 hk with rfl | hk
      · exact absurd hj (hno j j0 j1)
      · subst e2
        exact g.apart j k j0 j1 k0 k1 u hj hk
    · rw [if_neg e1] at hj
      rw [if_neg e2] at hk
      exact g.apart j k j0 j1 k0 k1 u hj hk

theorem rg_rem (g : Rg n xs R) (h0 : 0 ≤ h) (h1 : h < 3) (hm : b ∈ R h) :
    Rg n (rem xs b) (fun k => if k = h then (R h).filter (fun x => x != b) else R k) ∧ gv (rem xs b) (b + 2) = b ∧ Pl n (gv xs (b + 1)) ∧ Pl n (gv xs (b + 2)) := by
  have hp := g.path h h0 h1
  have hnd := g.nodup' h0 h1
  obtain ⟨hb, h9⟩ := g.place h h0 h1 b hm
  obtain ⟨l1, l2, hl⟩ := List.append_of_mem hm
  have hbm : b ∈ 3 * h :: R h := List.mem_cons_of_mem _ hm
  rw [hl] at hp hnd
  obtain ⟨p1, p2⟩ := Path.append.1 hp
  have am := p1.last_mem
  have xm := p2.next_mem b (by simp)
  have am' : gv xs (b + 1) ∈ 3 * h :: R h := by
    rw [hl]
    rcases List.mem_cons.1 am with e | e
    · rw [e]; simp
    · simp [e]
  have xm' : gv xs (b + 2) ∈ 3 * h :: R h := g.next h0 h1 hbm
  have hpa := g.pl h0 h1 am'
  have hpx := g.pl h0 h1 xm'
  have G := gv_rem g.len hb hpa hpx
  have hnb : (3 * h :: l1).Nodup ∧ (b :: l2).Nodup ∧ ∀ u ∈ 3 * h :: l1, u ∉ b :: l2 := by
    have := List.nodup_append.1 (show ((3 * h :: l1) ++ (b :: l2)).Nodup from hnd)
    exact ⟨this.1, this.2.1, fun u hu hv => this.2.2 u hu u hv rfl⟩
  obtain ⟨n1, n2, n3⟩ := hnb
  have n4 := (List.nodup_cons.1 n2).1
  have ab : gv xs (b + 1) ≠ b := fun e => n3 _ am (by rw [e]; simp)
  have xb : gv xs (b + 2) ≠ b := by
    rcases xm with e | e
    · rw [e]
      omega
    · exact ne_mem e n4
  have b3 := hb.2.2
  have a3 := hpa.2.2
  have x3 := hpx.2.2
  have hf : (R h).filter (fun x => x != b) = l1 ++ l2 := by
    rw [hl, List.filter_append, List.filter_cons]
    have e1 : l1.filter (fun x => x != b) = l1 := List.filter_eq_self.2 fun u hu => by
      simp
      exact fun e => n3 u (by simp [hu]) (by rw [e]; simp)
    have e2 : l2.filter (fun x => x != b) = l2 := List.filter_eq_self.2 fun u hu => by
      simp
      exact ne_mem hu n4
    rw [e1, e2]
    simp
  refine ⟨⟨by rw [rem_length, g.len], g.big, ?_, ?_, ?_, ?_⟩, ?_, hpa, hpx⟩
  · intro k k0 k1
    by_cases hk : k = h
    · subst hk
      rw [if_pos rfl, hf]
      have q3 : ∀ u ∈ 3 * k :: l1, u % 3 = 0 ∧ u ≠ b := fun u hu => by
        have hum : u ∈ 3 * k :: R k := by
          rw [hl]
          rcases List.mem_cons.1 hu with e | e
          · rw [e]; simp
          · simp [e]
        exact ⟨(g.pl k0 k1 hum).2.2, fun e => n3 u hu (by rw [e]; simp)⟩
      have step : ∀ z, z % 3 = 0 → z = gv xs (b + 2) → (∀ u ∈ l1, u ≠ z) → Path (rem xs b) (3 * k) l1 z := by
        intro z z3 hz hzn
        refine p1.retarget n1 ?_ ?_ ?_ ?_
        · rw [G, if_neg (by omega), if_neg (by omega), if_neg (by omega), if_pos rfl, hz]
        · rw [G, if_neg (by omega), if_neg (by omega), if_pos (by rw [hz])]
        · intro u hu hne
          obtain ⟨u3, ub⟩ := q3 u hu
          rw [G, if_neg (by omega), if_neg (by omega), if_neg (by omega), if_neg (by omega)]
        · intro u hu
          obtain ⟨u3, ub⟩ := q3 u (List.mem_cons_of_mem _ hu)
          have := hzn u hu
          rw [G, if_neg (by omega), if_neg (by omega), if_neg (by omega), if_neg (by omega)]
      cases l2 with
      | nil =>
        rw [List.append_nil]
        have e : gv xs (b + 2) = 3 * k := p2.1
        exact step (3 * k) (by omega) e.symm (fun u hu => fun e' => (List.nodup_cons.1 n1).1 (by rw [← e']; exact hu))
      | cons y t =>
        have e : gv xs (b + 2) = y := p2.1.1
        have hym : y ∈ 3 * k :: R k := by rw [← e]; exact xm'
        have n5 := (List.nodup_cons.1 (List.nodup_cons.1 n2).2).1
        refine Path.append.2 ⟨step y (g.pl k0 k1 hym).2.2 e.symm (fun u hu => fun e' => n3 u (by simp [hu]) (by rw [e']; simp)), p2.2.frame ?_ ?_ ?_⟩
        · intro u hu
          have hum : u ∈ 3 * k :: R k := by rw [hl]; exact List.mem_cons_of_mem _ (by simp at hu ⊢; exact .inr (.inr hu))
          have u3 := (g.pl k0 k1 hum).2.2
          have q1 := ne_mem hu n4
          have q2 : u ≠ gv xs (b + 1) := fun e' => n3 _ am (by rw [← e']; exact List.mem_cons_of_mem _ hu)
          rw [G, if_neg (by omega), if_neg (by omega), if_neg (by omega), if_neg (by omega)]
        · intro u hu
          have hum : u ∈ 3 * k :: R k := by rw [hl]; exact List.mem_cons_of_mem _ (by simp; exact .inr (.inr (.inr hu)))
          have u3 := (g.pl k0 k1 hum).2.2
          have q1 := ne_mem (List.mem_cons_of_mem y hu) n4
          have q2 := ne_mem hu n5
          rw [G, if_neg (by omega), if_neg (by omega), if_neg (by omega), if_neg (by omega)]
        · have q1 : y ≠ 3 * k := fun e' => (List.nodup_cons.1 hnd).1 (by rw [← e']; simp)
          rw [G, if_neg (by omega), if_neg (by omega), if_neg (by omega), if_neg (by omega)]
    · rw [if_neg hk]
      have far : ∀ u ∈ 3 * k :: R k, u ≠ gv xs (b + 1) ∧ u ≠ gv xs (b + 2) ∧ u ≠ b ∧ u % 3 = 0 := fun u hu =>
        ⟨fun e => hk (g.apart' k0 k1 h0 h1 hu (by rw [e]; exact am')), fun e => hk (g.apart' k0 k1 h0 h1 hu (by rw [e]; exact xm')),
          fun e => hk (g.apart' k0 k1 h0 h1 hu (by rw [e]; exact hbm)), (g.pl k0 k1 hu).2.2⟩
      have f2 : ∀ u ∈ 3 * k :: R k, gv (rem xs b) (u + 2) = gv xs (u + 2) := by
        intro u hu
        obtain ⟨q1, q2, q3, q4⟩ := far u hu
        rw [G, if_neg (by omega), if_neg (by omega), if_neg (by omega), if_neg (by omega)]
      have f1 : ∀ u ∈ 3 * k :: R k, gv (rem xs b) (u + 1) = gv xs (u + 1) := by
        intro u hu
        obtain ⟨q1, q2, q3, q4⟩ := far u hu
        rw [G, if_neg (by omega), if_neg (by omega), if_neg (by omega), if_neg (by omega)]
      exact (g.path k k0 k1).frame f2 (fun u hu => f1 u (List.mem_cons_of_mem _ hu)) (f1 _ (by simp))
  · intro k k0 k1 u hu
    by_cases hk : k = h
    · subst hk
      rw [if_pos rfl] at hu
      exact g.place k k0 k1 u (List.mem_filter.1 hu).1
    · rw [if_neg hk] at hu
      exact g.place k k0 k1 u hu
  · intro k k0 k1
    by_cases hk : k = h
    · subst hk
      rw [if_pos rfl]
      exact (g.nodup k k0 k1).filter _
    · rw [if_neg hk]
      exact g.nodup k k0 k1
  · intro j k j0 j1 k0 k1 u hj hk
    have w1 : u ∈ R j := by
      by_cases e : j = h
      · subst e
        rw [if_pos rfl] at hj
        exact (List.mem_filter.1 hj).1
      · rwa [if_neg e] at hj
    have w2 : u ∈ R k := by
      by_cases e : k = h
      · subst e
        rw [if_pos rfl] at hk
        exact (List.mem_filter.1 hk).1
      · rwa [if_neg e] at hk
    exact g.apart j k j0 j1 k0 k1 u w1 w2
  · rw [G, if_pos rfl]

theorem rg_joi (g : Rg n xs R) (h0 : 0 ≤ h) (h1 : h < 3) (k0 : 0 ≤ k) (k1 : k < 3) (hne : h ≠ k) :
    Rg n (joi xs (3 * h) (3 * k)) (fun j => if j = k then [] else if j = h then R h ++ R k else R j) := by
  have hp := g.path h h0 h1
  have hq := g.path k k0 k1
  have hh := g.head h0 h1
  have hk := g.head k0 k1
  have fm := g.next k0 k1 (u := 3 * k) (by simp)
  have lm := g.last k0 k1
  have zm := g.last h0 h1
  have f3 := (g.pl k0 k1 fm).2.2
  have l3 := (g.pl k0 k1 lm).2.2
  have z3 := (g.pl h0 h1 zm).2.2
  have parts : ∀ (ys : List Int), (∀ j, 0 ≤ j → j < 3 → Path ys (3 * j) (if j = k then [] else if j = h then R h ++ R k else R j) (3 * j)) → ys.length = n →
      Rg n ys (fun j => if j = k then [] else if j = h then R h ++ R k else R j) := by
    intro ys hpath hlen
    have memb : ∀ j u, u ∈ (if j = k then [] else if j = h then R h ++ R k else R j) → j ≠ k ∧ (j = h ∧ (u ∈ R h ∨ u ∈ R k) ∨ j ≠ h ∧ u ∈ R j) := by
      intro j u hu
      by_cases e1 : j = k
      · rw [if_pos e1] at hu
        exact absurd hu (by simp)
      · rw [if_neg e1] at hu
        refine ⟨e1, ?_⟩
        by_cases e2 : j = h
        · rw [if_pos e2] at hu
          exact .inl ⟨e2, List.mem_append.1 hu⟩
        · rw [if_neg e2] at hu
          exact .inr ⟨e2, hu⟩
    refine ⟨hlen, g.big, hpath, ?_, ?_, ?_⟩
    · intro j j0 j1 u hu
      obtain ⟨-, ⟨rfl, e | e⟩ | ⟨_, e⟩⟩ := memb j u hu
      · exact g.place j j0 j1 u e
      · exact g.place k k0 k1 u e
      · exact g.place j j0 j1 u e
    · intro j j0 j1
      show (if j = k then [] else if j = h then R h ++ R k else R j).Nodup
      split
      · simp
      · split
        · exact List.nodup_append.2 ⟨g.nodup h h0 h1, g.nodup k k0 k1, fun u hu v hv e => hne (g.apart h k h0 h1 k0 k1 u hu (e ▸ hv))⟩
        · exact g.nodup j j0 j1
    · intro i j i0 i1 j0 j1 u hi hj
      obtain ⟨a1, a2⟩ := memb i u hi
      obtain ⟨b1, b2⟩ := memb j u hj
      rcases a2 with ⟨a2, a3 | a3⟩ | ⟨a2, a3⟩ <;> rcases b2 with ⟨b2, b3 | b3⟩ | ⟨b2, b3⟩
      · omega
      · omega
      · exact absurd (g.apart h j h0 h1 j0 j1 u a3 b3).symm b2
      · omega
      · omega
      · exact absurd (g.apart k j k0 k1 j0 j1 u a3 b3).symm b1
      · exact absurd (g.apart h i h0 h1 i0 i1 u b3 a3).symm a2
      · exact absurd (g.apart k i k0 k1 i0 i1 u b3 a3).symm a1
      · exact g.apart i j i0 i1 j0 j1 u a3 b3
  obtain hl | ⟨f, t, hl⟩ : R k = [] ∨ ∃ f t, R k = f :: t := by cases R k <;> simp
  · rw [hl] at hq
    have e : gv xs (3 * k + 2) = 3 * k := hq.1
    rw [joi, if_pos e]
    refine parts xs ?_ g.len
    intro j j0 j1
    by_cases e1 : j = k
    · rw [if_pos e1, e1]
      exact hq
    · rw [if_neg e1]
      by_cases e2 : j = h
      · rw [if_pos e2, e2, hl, List.append_nil]
        exact hp
      · rw [if_neg e2]
        exact g.path j j0 j1
  · rw [hl] at hq
    have e : gv xs (3 * k + 2) = f := hq.1.1
    have fR : f ∈ R k := by rw [hl]; simp
    have f9 := (g.place k k0 k1 f fR).2
    have hfk : gv xs (3 * k + 2) ≠ 3 * k := by omega
    have G := gv_joi g.len hh hk (g.pl k0 k1 fm) (g.pl k0 k1 lm) (g.pl h0 h1 zm) hfk
    have lt := hq.2.last_mem
    have hnd := g.nodup' k0 k1
    rw [hl] at hnd
    obtain ⟨n1, n2⟩ := List.nodup_cons.1 hnd
    have lk : gv xs (3 * k + 1) ≠ 3 * k := ne_mem lt n1
    have zk : gv xs (3 * h + 1) ≠ 3 * k := fun e' => hne (g.apart' h0 h1 k0 k1 zm (by rw [e']; simp))
    have zl : gv xs (3 * h + 1) ≠ gv xs (3 * k + 1) := fun e' => hne (g.apart' h0 h1 k0 k1 zm (by rw [e']; exact lm))
    refine parts _ ?_ (by rw [joi_length, g.len])
    intro j j0 j1
    by_cases e1 : j = k
    · rw [if_pos e1, e1]
      refine ⟨?_, ?_⟩
      · rw [G, if_pos rfl]
      · rw [G, if_neg (by omega), if_pos rfl]
    · rw [if_neg e1]
      by_cases e2 : j = h
      · rw [if_pos e2, e2, hl]
        refine Path.append.2 ⟨hp.retarget (g.nodup' h0 h1) ?_ ?_ ?_ ?_, hq.2.retarget n2 ?_ ?_ ?_ ?_⟩
        · rw [G, if_neg (by omega), if_neg (by omega), if_neg (by omega), if_neg (by omega), if_neg (by omega), if_pos rfl, e]
        · rw [G, if_neg (by omega), if_neg (by omega), if_neg (by omega), if_neg (by omega), if_pos (by rw [e])]
        · intro u hu hne'
          have u3 := (g.pl h0 h1 hu).2.2
          have q1 : u ≠ 3 * k := fun e' => hne (g.apart' h0 h1 k0 k1 hu (by rw [e']; simp))
          have q2 : u ≠ gv xs (3 * k + 1) := fun e' => hne (g.apart' h0 h1 k0 k1 hu (by rw [e']; exact lm))
          rw [G, if_neg (by omega), if_neg (by omega), if_neg (by omega), if_neg (by omega), if_neg (by omega), if_neg (by omega)]
        · intro u hu
          have hu' : u ∈ 3 * h :: R h := List.mem_cons_of_mem _ hu
          have u3 := (g.pl h0 h1 hu').2.2
          have u9 := (g.place h h0 h1 u hu).2
          have q1 : u ≠ gv xs (3 * k + 2) := fun e' => hne (g.apart' h0 h1 k0 k1 hu' (by rw [e']; exact fm))
          rw [G, if_neg (by omega), if_neg (by omega), if_neg (by omega), if_neg (by omega), if_neg (by omega), if_neg (by omega)]
        · rw [G, if_neg (by omega), if_neg (by omega), if_neg (by omega), if_pos rfl]
        · rw [G, if_neg (by omega), if_neg (by omega), if_pos rfl]
        · intro u hu hne'
          have hu' : u ∈ 3 * k :: R k := by rw [hl]; exact List.mem_cons_of_mem _ hu
          have u3 := (g.pl k0 k1 hu').2.2
          have q1 : u ≠ 3 * k := ne_mem hu n1
          have q2 : u ≠ gv xs (3 * h + 1) := fun e' => hne (g.apart' h0 h1 k0 k1 zm (by rw [← e']; exact hu'))
          rw [G, if_neg (by omega), if_neg (by omega), if_neg (by omega), if_neg (by omega), if_neg (by omega), if_neg (by omega)]
        · intro u hu
          have hu' : u ∈ 3 * k :: R k := by rw [hl]; exact List.mem_cons_of_mem _ (List.mem_cons_of_mem _ hu)
          have u3 := (g.pl k0 k1 hu').2.2
          have u9 := (g.place k k0 k1 u (by rw [hl]; exact List.mem_cons_of_mem _ hu)).2
          have q1 : u ≠ f := ne_mem hu (List.nodup_cons.1 n2).1
          rw [G, if_neg (by omega), if_neg (by omega), if_neg (by omega), if_neg (by omega), if_neg (by omega), if_neg (by omega)]
      · rw [if_neg e2]
        have far : ∀ u ∈ 3 * j :: R j, u ≠ gv xs (3 * k + 1) ∧ u ≠ gv xs (3 * k + 2) ∧ u ≠ gv xs (3 * h + 1) ∧ u ≠ 3 * h ∧ u ≠ 3 * k ∧ u % 3 = 0 := fun u hu =>
          ⟨fun e => e1 (g.apart' j0 j1 k0 k1 hu (by rw [e]; exact lm)), fun e => e1 (g.apart' j0 j1 k0 k1 hu (by rw [e]; exact fm)),
            fun e => e2 (g.apart' j0 j1 h0 h1 hu (by rw [e]; exact zm)), fun e => e2 (g.apart' j0 j1 h0 h1 hu (by rw [e]; simp)), fun e => e1 (g.apart' j0 j1 k0 k1 hu (by rw [e]; simp)), (g.pl j0 j1 hu).2.2⟩
        have f2 : ∀ u ∈ 3 * j :: R j, gv (joi xs (3 * h) (3 * k)) (u + 2) = gv xs (u + 2) := by
          intro u hu
          obtain ⟨q1, q2, q3, q4, q5, q6⟩ := far u hu
          rw [G, if_neg (by omega), if_neg (by omega), if_neg (by omega), if_neg (by omega), if_neg (by omega), if_neg (by omega)]
        have f1 : ∀ u ∈ 3 * j :: R j, gv (joi xs (3 * h) (3 * k)) (u + 1) = gv xs (u + 1) := by
          intro u hu
          obtain ⟨q1, q2, q3, q4, q5, q6⟩ := far u hu
          rw [G, if_neg (by omega), if_neg (by omega), if_neg (by omega), if_neg (by omega), if_neg (by omega), if_neg (by omega)]
        exact (g.path j j0 j1).frame f2 (fun u hu => f1 u (List.mem_cons_of_mem _ hu)) (f1 _ (by simp))

theorem rg_start (hlen : xs.length = n) (hn : 9 ≤ n) (h : ∀ j : Nat, j < 3 → Path xs (3 * j) [] (3 * j)) : Rg n xs (fun _ => []) :=
  ⟨hlen, hn, fun k k0 k1 => by
    obtain ⟨j, rfl⟩ := Int.eq_ofNat_of_zero_le k0
    exact h j (by omega), fun _ _ _ _ hb => absurd hb (by simp), fun _ _ _ => by simp, fun _ _ _ _ _ _ _ hb => absurd hb (by simp)⟩
theorem ini_path (hn : xs.length = n) (hb : Pl n b) : Path (ini xs b) b [] b := by
  refine ⟨?_, ?_⟩
  · rw [gv_ini hn hb, if_pos rfl]
  · rw [gv_ini hn hb, if_neg (by omega), if_pos rfl]
theorem ini_far (hn : xs.length = n) (hb : Pl n b) {a : Int} (ha : Path xs a [] a) (h3 : a % 3 = 0) (hne : a ≠ b) : Path (ini xs b) a [] a := by
  have b3 := hb.2.2
  refine ⟨?_, ?_⟩
  · rw [gv_ini hn hb, if_neg (by omega), if_neg (by omega)]
    exact ha.1
  · rw [gv_ini hn hb, if_neg (by omega), if_neg (by omega)]
    exact ha.2
end
end Go.Proofs.Ytnkfpnhifpblmaa
