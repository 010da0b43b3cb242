/- Rings within words, as lists, for the heap: thirteen heads at 12, 15, .., and cells that lie apart. What Init, Insert, Remove and Join do to them. Plain mathematics. -/
import Derived.WalkKit
namespace Go.Proofs.YtclcnepkgjcmcaaDoor

/-- a place within n words -/
def inside (n : Nat) (i : Int) : Bool := decide (0 ≤ i ∧ i < n)
theorem inside_yes {n : Nat} {i : Int} (h : inside n i = true) : 0 ≤ i ∧ i < n := by simpa [inside] using h
theorem inside_mk {n : Nat} {i : Int} (h0 : 0 ≤ i) (h1 : i < n) : inside n i = true := by simp [inside]; omega
theorem inside_no {n : Nat} {i : Int} (h : inside n i = false) : i < 0 ∨ 0 ≤ i ∧ n ≤ i := by
  have : ¬ (0 ≤ i ∧ i < n) := by simpa [inside] using h
  omega
def gv (xs : List Int) (i : Int) : Int := if inside xs.length i then xs.getD i.toNat 0 else 0
def sv (xs : List Int) (i v : Int) : List Int := if inside xs.length i then xs.set i.toNat v else xs
theorem sv_length (xs : List Int) (i v : Int) : (sv xs i v).length = xs.length := by unfold sv; split <;> simp

theorem gv_sv {xs : List Int} {i : Int} (v j : Int) (hi : inside xs.length i = true) : gv (sv xs i v) j = if j = i then v else gv xs j := by
  obtain ⟨h0, h1⟩ := inside_yes hi
  obtain ⟨n, rfl⟩ := Int.eq_ofNat_of_zero_le h0
  rw [sv, if_pos hi, Int.toNat_natCast]
  by_cases hj : j = n
  · subst hj
    rw [if_pos rfl, gv, List.length_set, if_pos hi, Int.toNat_natCast]
    simp [show n < xs.length by omega]
  · rw [if_neg hj, gv, gv, List.length_set]
    cases hk : inside xs.length j
    · simp
    · obtain ⟨k0, k1⟩ := inside_yes hk
      obtain ⟨m, rfl⟩ := Int.eq_ofNat_of_zero_le k0
      have : n ≠ m := by omega
      simp [List.getD_eq_getElem?_getD, this]

/-- a place of which all three words lie within n -/
def Pl (n : Nat) (a : Int) : Prop := 0 ≤ a ∧ a + 2 < n
/-- a's behind is z, and z's ahead is a -/
def Lk (xs : List Int) (a z : Int) : Prop := gv xs (a + 2) = z ∧ gv xs (z + 1) = a
/-- behind a stand those of the list, in order, then z -/
def Path (xs : List Int) : Int → List Int → Int → Prop
  | a, [], z => Lk xs a z
  | a, x :: l, z => Lk xs a x ∧ Path xs x l z

section
variable {xs ys : List Int}
theorem Path.append : ∀ {l : List Int} {a x z : Int} {t : List Int}, Path xs a (l ++ x :: t) z ↔ Path xs a l x ∧ Path xs x t z
  | [], _, _, _, _ => by simp [Path]
  | y :: l, _, _, _, _ => by
    simp only [List.cons_append, Path]
    rw [Path.append (l := l)]
    exact ⟨fun ⟨h, h1, h2⟩ => ⟨⟨h, h1⟩, h2⟩, fun ⟨⟨h, h1⟩, h2⟩ => ⟨h, h1, h2⟩⟩
theorem Path.frame : ∀ {l : List Int} {a z : Int}, Path xs a l z → (∀ u ∈ a :: l, gv ys (u + 2) = gv xs (u + 2)) → (∀ u ∈ l, gv ys (u + 1) = gv xs (u + 1)) → gv ys (z + 1) = gv xs (z + 1) → Path ys a l z
  | [], a, z, h, h2, _, hz => ⟨(h2 a (by simp)).trans h.1, hz.trans h.2⟩
  | x :: l, a, z, h, h2, h1, hz =>
    ⟨⟨(h2 a (by simp)).trans h.1.1, (h1 x (by simp)).trans h.1.2⟩, Path.frame h.2 (fun u hu => h2 u (by simp at hu ⊢; exact .inr hu)) (fun u hu => h1 u (by simp [hu])) hz⟩
theorem Path.last_eq : ∀ {l : List Int} {a z : Int}, Path xs a l z → gv xs (z + 1) = (a :: l).getLast (by simp)
  | [], a, z, h => by simpa using h.2
  | x :: l, a, z, h => by rw [List.getLast_cons (by simp)]; exact Path.last_eq h.2
theorem Path.last_mem {l : List Int} {a z : Int} (h : Path xs a l z) : gv xs (z + 1) ∈ a :: l := by
  rw [h.last_eq]
  exact List.getLast_mem _
theorem Path.next_mem : ∀ {l : List Int} {a z : Int}, Path xs a l z → ∀ u ∈ a :: l, gv xs (u + 2) = z ∨ gv xs (u + 2) ∈ l
  | [], a, z, h, u, hu => by
    simp at hu
    subst hu
    exact .inl h.1
  | x :: l, a, z, h, u, hu => by
    rcases List.mem_cons.1 hu with rfl | hu
    · exact .inr (by simp [h.1.1])
    · rcases Path.next_mem h.2 u hu with h' | h'
      · exact .inl h'
      · exact .inr (List.mem_cons_of_mem _ h')
/-- the last of a path led elsewhere -/
theorem Path.retarget : ∀ {l : List Int} {a z z' : Int}, Path xs a l z → (a :: l).Nodup → gv ys (gv xs (z + 1) + 2) = z' → gv ys (z' + 1) = gv xs (z + 1) →
    (∀ u ∈ a :: l, u ≠ gv xs (z + 1) → gv ys (u + 2) = gv xs (u + 2)) → (∀ u ∈ l, gv ys (u + 1) = gv xs (u + 1)) → Path ys a l z'
  | [], a, z, z', h, _, h1, h2, _, _ => by
    rw [h.2] at h1 h2
    exact ⟨h1, h2⟩
  | x :: l, a, z, z', h, hn, h1, h2, k2, k1 => by
    have hm := Path.last_mem h.2
    have hne : a ≠ gv xs (z + 1) := fun e => (List.nodup_cons.1 hn).1 (e ▸ hm)
    exact ⟨⟨(k2 a (by simp) hne).trans h.1.1, (k1 x (by simp)).trans h.1.2⟩,
      Path.retarget h.2 (List.nodup_cons.1 hn).2 h1 h2 (fun u hu hne => k2 u (List.mem_cons_of_mem _ hu) hne) (fun u hu => k1 u (List.mem_cons_of_mem _ hu))⟩
end

/-- what the calls leave -/
def ini (xs : List Int) (b : Int) : List Int := sv (sv xs (b + 1) b) (b + 2) b
def ins (xs : List Int) (a b : Int) : List Int := sv (sv (sv (sv xs (b + 1) a) (b + 2) (gv xs (a + 2))) (a + 2) b) (gv xs (a + 2) + 1) b
def rem (xs : List Int) (b : Int) : List Int := ini (sv (sv xs (gv xs (b + 1) + 2) (gv xs (b + 2))) (gv xs (b + 2) + 1) (gv xs (b + 1))) b
def joi (xs : List Int) (a b : Int) : List Int :=
  if gv xs (b + 2) = b then xs else
    ini (sv (sv (sv (sv xs (gv xs (a + 1) + 2) (gv xs (b + 2))) (gv xs (b + 2) + 1) (gv xs (a + 1))) (gv xs (b + 1) + 2) a) (a + 1) (gv xs (b + 1))) b

theorem ini_length (xs : List Int) (b : Int) : (ini xs b).length = xs.length := by simp [ini, sv_length]
theorem ins_length (xs : List Int) (a b : Int) : (ins xs a b).length = xs.length := by simp [ins, sv_length]
theorem rem_length (xs : List Int) (b : Int) : (rem xs b).length = xs.length := by simp [rem, ini_length, sv_length]
theorem joi_length (xs : List Int) (a b : Int) : (joi xs a b).length = xs.length := by
  unfold joi
  split
  · rfl
  · simp [ini_length, sv_length]

section
variable {xs : List Int} {n : Nat} {a b : Int}
theorem Pl.in1 (h : Pl n a) : inside n (a + 1) = true := by
  obtain ⟨h0, h1⟩ := h
  simp [inside]
  omega
theorem Pl.in2 (h : Pl n a) : inside n (a + 2) = true := by
  obtain ⟨h0, h1⟩ := h
  simp [inside]
  omega
theorem gv_ini (hn : xs.length = n) (hb : Pl n b) (j : Int) : gv (ini xs b) j = if j = b + 2 then b else if j = b + 1 then b else gv xs j := by
  subst hn
  rw [ini, gv_sv _ _ (by rw [sv_length]; exact hb.in2), gv_sv _ _ hb.in1]
theorem gv_ins (hn : xs.length = n) (ha : Pl n a) (hb : Pl n b) (hx : Pl n (gv xs (a + 2))) (j : Int) :
    gv (ins xs a b) j = if j = gv xs (a + 2) + 1 then b else if j = a + 2 then b else if j = b + 2 then gv xs (a + 2) else if j = b + 1 then a else gv xs j := by
  subst hn
  rw [ins, gv_sv _ _ (by simp only [sv_length]; exact hx.in1), gv_sv _ _ (by simp only [sv_length]; exact ha.in2), gv_sv _ _ (by simp only [sv_length]; exact hb.in2), gv_sv _ _ hb.in1]
theorem gv_rem (hn : xs.length = n) (hb : Pl n b) (h1 : Pl n (gv xs (b + 1))) (h2 : Pl n (gv xs (b + 2))) (j : Int) :
    gv (rem xs b) j = if j = b + 2 then b else if j = b + 1 then b else if j = gv xs (b + 2) + 1 then gv xs (b + 1) else if j = gv xs (b + 1) + 2 then gv xs (b + 2) else gv xs j := by
  subst hn
  rw [rem, gv_ini (by simp only [sv_length]) hb, gv_sv _ _ (by simp only [sv_length]; exact h2.in1), gv_sv _ _ h1.in2]
theorem gv_joi (hn : xs.length = n) (ha : Pl n a) (hb : Pl n b) (hf : Pl n (gv xs (b + 2))) (hl : Pl n (gv xs (b + 1))) (hz : Pl n (gv xs (a + 1))) (hne : gv xs (b + 2) ≠ b) (j : Int) :
    gv (joi xs a b) j = if j = b + 2 then b else if j = b + 1 then b else if j = a + 1 then gv xs (b + 1) else if j = gv xs (b + 1) + 2 then a
      else if j = gv xs (b + 2) + 1 then gv xs (a + 1) else if j = gv xs (a + 1) + 2 then gv xs (b + 2) else gv xs j := by
  subst hn
  rw [joi, if_neg hne, gv_ini (by simp only [sv_length]) hb, gv_sv _ _ (by simp only [sv_length]; exact ha.in1), gv_sv _ _ (by simp only [sv_length]; exact hl.in2), gv_sv _ _ (by simp only [sv_length]; exact hf.in1), gv_sv _ _ hz.in2]
end

/-- where a ring begins -/
def hd (k : Nat) : Int := 12 + 3 * k
/-- C: the cells' places within n words, which lie behind the heads, and apart -/
structure Plc (n : Nat) (C : Int → Prop) : Prop where
  big : 51 ≤ n
  low : ∀ u, C u → 51 ≤ u
  top : ∀ u, C u → u + 2 < n
  far : ∀ u v, C u → C v → u ≠ v → u + 3 ≤ v ∨ v + 3 ≤ u
def Mem (C : Int → Prop) (u : Int) : Prop := (∃ k, k < 13 ∧ u = hd k) ∨ C u

/-- The thirteen rings: behind the head k stand the cells of R k. -/
structure Rg (n : Nat) (C : Int → Prop) (xs : List Int) (R : Nat → List Int) : Prop where
  len : xs.length = n
  path : ∀ k, k < 13 → Path xs (hd k) (R k) (hd k)
  place : ∀ k, k < 13 → ∀ b ∈ R k, C b
  nodup : ∀ k, k < 13 → (R k).Nodup
  apart : ∀ j k, j < 13 → k < 13 → ∀ b, b ∈ R j → b ∈ R k → j = k

/-- words that are no links are as they were -/
def Keep (C : Int → Prop) (xs ys : List Int) : Prop := ∀ j, (∀ u, Mem C u → j ≠ u + 1 ∧ j ≠ u + 2) → gv ys j = gv xs j

section
variable {n : Nat} {C : Int → Prop} {xs ys zs : List Int} {R : Nat → List Int} {h k : Nat} {b u v : Int}
theorem Keep.refl (C : Int → Prop) (xs : List Int) : Keep C xs xs := fun _ _ => rfl
theorem Keep.trans (h : Keep C xs ys) (k : Keep C ys zs) : Keep C xs zs := fun j hj => (k j hj).trans (h j hj)
theorem Mem.pl (p : Plc n C) (hu : Mem C u) : Pl n u := by
  rcases hu with ⟨k, hk, rfl⟩ | hu
  · have := p.big
    exact ⟨by unfold hd; omega, by unfold hd; omega⟩
  · exact ⟨by have := p.low u hu; omega, p.top u hu⟩
theorem Mem.far (p : Plc n C) (hu : Mem C u) (hv : Mem C v) (hne : u ≠ v) : u + 3 ≤ v ∨ v + 3 ≤ u := by
  rcases hu with ⟨k, hk, rfl⟩ | hu <;> rcases hv with ⟨j, hj, rfl⟩ | hv
  · unfold hd at *; omega
  · have := p.low _ hv; unfold hd at *; omega
  · have := p.low _ hu; unfold hd at *; omega
  · exact p.far _ _ hu hv hne
/-- a link of one is no other link of another -/
theorem Mem.ne (p : Plc n C) (hu : Mem C u) (hv : Mem C v) : u + 1 ≠ v + 2 ∧ v + 1 ≠ u + 2 ∧ (u + 1 = v + 1 → u = v) ∧ (u + 2 = v + 2 → u = v) := by
  by_cases e : u = v
  · subst e; omega
  · have := hu.far p hv e; omega
theorem Rg.mem (g : Rg n C xs R) (hk : k < 13) (hu : u ∈ hd k :: R k) : Mem C u := by
  rcases List.mem_cons.1 hu with rfl | hu
  · exact .inl ⟨k, hk, rfl⟩
  · exact .inr (g.place k hk u hu)
theorem Rg.nothead (p : Plc n C) (g : Rg n C xs R) (hk : k < 13) (hu : u ∈ R k) (j : Nat) (hj : j < 13) : u ≠ hd j := by
  have := p.low u (g.place k hk u hu)
  unfold hd
  omega
theorem Rg.nodup' (p : Plc n C) (g : Rg n C xs R) (hk : k < 13) : (hd k :: R k).Nodup :=
  List.nodup_cons.2 ⟨fun hm => g.nothead p hk hm k hk rfl, g.nodup k hk⟩
theorem Rg.next (g : Rg n C xs R) (hk : k < 13) (hu : u ∈ hd k :: R k) : gv xs (u + 2) ∈ hd k :: R k := by
  rcases (g.path k hk).next_mem u hu with e | e
  · rw [e]; simp
  · exact List.mem_cons_of_mem _ e
theorem Rg.last (g : Rg n C xs R) (hk : k < 13) : gv xs (hd k + 1) ∈ hd k :: R k := (g.path k hk).last_mem
theorem hd_inj {j k : Nat} (h : hd j = hd k) : j = k := by unfold hd at h; omega
/-- of two heads' rings no one stands in both -/
theorem Rg.apart' (p : Plc n C) (g : Rg n C xs R) (hh : h < 13) (hk : k < 13) (hu : u ∈ hd h :: R h) (ku : u ∈ hd k :: R k) : h = k := by
  rcases List.mem_cons.1 hu with e | hu
  · rcases List.mem_cons.1 ku with e' | ku
    · exact hd_inj (e.symm.trans e')
    · exact absurd e (g.nothead p hk ku h hh)
  · rcases List.mem_cons.1 ku with e' | ku
    · exact absurd e' (g.nothead p hh hu k hk)
    · exact g.apart h k hh hk u hu ku
theorem ne_mem {u x : Int} {l : List Int} (hu : u ∈ l) (hx : x ∉ l) : u ≠ x := fun e => hx (e ▸ hu)

/-- rings whose words are left alone -/
theorem Rg.keep_ring (g : Rg n C xs R) (hk : k < 13) (f : ∀ u ∈ hd k :: R k, gv ys (u + 2) = gv xs (u + 2) ∧ gv ys (u + 1) = gv xs (u + 1)) : Path ys (hd k) (R k) (hd k) :=
  (g.path k hk).frame (fun u hu => (f u hu).1) (fun u hu => (f u (List.mem_cons_of_mem _ hu)).2) (f _ (by simp)).2

def updR (R : Nat → List Int) (h : Nat) (l : List Int) : Nat → List Int := fun k => if k = h then l else R k
theorem updR_same : updR R h = fun l => fun k => if k = h then l else R k := rfl

/-- it is put behind one that is the last of hd h :: l1, where l1 ++ l2 stand behind the head h -/
theorem rg_ins (p : Plc n C) (g : Rg n C xs R) (hh : h < 13) {at_ : Int} {l1 l2 : List Int} (hs : R h = l1 ++ l2) (hat : at_ = (hd h :: l1).getLast (by simp)) (hb : C b) (hno : ∀ k, k < 13 → b ∉ R k) :
    Rg n C (ins xs at_ b) (updR R h (l1 ++ b :: l2)) ∧ Keep C xs (ins xs at_ b) ∧ Pl n at_ ∧ Pl n b ∧ Pl n (gv xs (at_ + 2)) := by
  have hp := g.path h hh
  have atm1 : at_ ∈ hd h :: l1 := by rw [hat]; exact List.getLast_mem _
  have sub1 : ∀ u ∈ hd h :: l1, u ∈ hd h :: R h := fun u hu => by
    rw [hs]
    rcases List.mem_cons.1 hu with e | e
    · rw [e]; simp
    · simp [e]
  have sub2 : ∀ u ∈ l2, u ∈ hd h :: R h := fun u hu => by rw [hs]; simp [hu]
  have atm := sub1 _ atm1
  have hnx := g.next hh atm
  have ma := g.mem hh atm
  have mx := g.mem hh hnx
  have mb : Mem C b := .inr hb
  have G := gv_ins g.len (ma.pl p) (mb.pl p) (mx.pl p)
  have hbn : ∀ k, k < 13 → ∀ u ∈ hd k :: R k, u ≠ b := by
    intro k k1 u hu e
    subst e
    rcases List.mem_cons.1 hu with e | hu
    · have := p.low _ hb; unfold hd at e; omega
    · exact hno k k1 hu
  have xb := hbn h hh _ hnx
  have ab := hbn h hh _ atm
  have hnd := g.nodup' p hh
  rw [hs] at hnd hp
  have hnd' : ((hd h :: l1) ++ l2).Nodup := hnd
  obtain ⟨n1, n2, n3⟩ := List.nodup_append.1 hnd'
  refine ⟨⟨by rw [ins_length, g.len], ?_, ?_, ?_, ?_⟩, ?_, ma.pl p, mb.pl p, mx.pl p⟩
  · intro k k1
    by_cases hk : k = h
    · subst hk
      rw [updR, if_pos rfl, Path.append]
      -- the part ahead leads to b
      have lead : ∀ z, Path xs (hd k) l1 z → z = gv xs (at_ + 2) → Path (ins xs at_ b) (hd k) l1 b := by
        intro z hz e
        have elast : gv xs (z + 1) = at_ := by rw [hz.last_eq, hat]
        refine hz.retarget n1 ?_ ?_ ?_ ?_
        · rw [elast, G]
          have := ma.ne p mx
          rw [if_neg (by omega), if_pos rfl]
        · rw [elast, G]
          have := mb.ne p mx
          have := mb.ne p ma
          have := mb.ne p mb
          rw [if_neg (by omega), if_neg (by omega), if_neg (by omega), if_pos rfl]
        · intro u hu hne
          rw [elast] at hne
          have mu := g.mem hh (sub1 u hu)
          have := mu.ne p mx
          have := mu.ne p ma
          have := mu.ne p mb
          have := hbn k hh u (sub1 u hu)
          rw [G, if_neg (by omega), if_neg (by omega), if_neg (by omega), if_neg (by omega)]
        · intro u hu
          have hu' : u ∈ hd k :: l1 := List.mem_cons_of_mem _ hu
          have mu := g.mem hh (sub1 u hu')
          have := mu.ne p mx
          have := mu.ne p ma
          have := mu.ne p mb
          have := hbn k hh u (sub1 u hu')
          have hux : u ≠ gv xs (at_ + 2) := by
            cases l2 with
            | nil =>
              rw [List.append_nil] at hp
              have e1 : gv xs (hd k + 1) = at_ := by rw [hp.last_eq, hat]
              have e2 : gv xs (at_ + 2) = hd k := by
                rcases hp.next_mem at_ atm1 with e' | e'
                · exact e'
                · exfalso
                  have hzz : z = hd k := by
                    have q1 := hz.next_mem
                    clear q1
                    rw [e]
                    have : ∀ {l : List Int} {a z' : Int}, Path xs a l z' → gv xs ((a :: l).getLast (by simp) + 2) = z' := by
                      intro l
                      induction l with
                      | nil => intro a z' h; simpa using h.1
                      | cons y t ih => intro a z' h; rw [List.getLast_cons (by simp)]; exact ih h.2
                    rw [hat]
                    exact this hp
                  rw [← e, hzz] at e'
                  exact (List.nodup_cons.1 n1).1 e'
              rw [e2]
              exact ne_mem hu (List.nodup_cons.1 n1).1
            | cons y t =>
              have : ∀ {l : List Int} {a z' : Int}, Path xs a l z' → gv xs ((a :: l).getLast (by simp) + 2) = z' := by
                intro l
                induction l with
                | nil => intro a z' h; simpa using h.1
                | cons y t ih => intro a z' h; rw [List.getLast_cons (by simp)]; exact ih h.2
              have e2 : gv xs (at_ + 2) = y := by rw [hat]; exact this (Path.append.1 hp).1
              rw [e2]
              exact fun e' => n3 u hu' y (by simp) e'
          rw [G, if_neg (by omega), if_neg (by omega), if_neg (by omega), if_neg (by omega)]
      have nextAt : ∀ {l : List Int} {a z' : Int}, Path xs a l z' → gv xs ((a :: l).getLast (by simp) + 2) = z' := by
        intro l
        induction l with
        | nil => intro a z' h; simpa using h.1
        | cons y t ih => intro a z' h; rw [List.getLast_cons (by simp)]; exact ih h.2
      cases hl2 : l2 with
      | nil =>
        rw [hl2, List.append_nil] at hp
        have e2 : gv xs (at_ + 2) = hd k := by rw [hat]; exact nextAt hp
        refine ⟨lead _ hp e2.symm, ?_, ?_⟩
        · rw [G]
          have := mb.ne p mx
          have := mb.ne p ma
          rw [if_neg (by omega), if_neg (by omega), if_pos rfl, e2]
        · rw [G, if_pos (by rw [e2])]
      | cons x t =>
        rw [hl2] at hp
        obtain ⟨p1, p2⟩ := Path.append.1 hp
        have e2 : gv xs (at_ + 2) = x := by rw [hat]; exact nextAt p1
        have nt := (List.nodup_cons.1 (hl2 ▸ n2)).1
        refine ⟨lead _ p1 e2.symm, ⟨?_, ?_⟩, ?_⟩
        · rw [G]
          have := mb.ne p mx
          have := mb.ne p ma
          rw [if_neg (by omega), if_neg (by omega), if_pos rfl, e2]
        · rw [G, if_pos (by rw [e2])]
        · refine p2.frame ?_ ?_ ?_
          · intro u hu
            have hum := sub2 u (by rw [hl2]; exact hu)
            have mu := g.mem hh hum
            have := mu.ne p mx
            have := mu.ne p ma
            have := mu.ne p mb
            have := hbn k hh u hum
            have : u ≠ at_ := fun e => n3 at_ atm1 u (by rw [hl2]; exact hu) e.symm
            rw [G, if_neg (by omega), if_neg (by omega), if_neg (by omega), if_neg (by omega)]
          · intro u hu
            have hum := sub2 u (by rw [hl2]; exact List.mem_cons_of_mem _ hu)
            have mu := g.mem hh hum
            have := mu.ne p mx
            have := mu.ne p ma
            have := mu.ne p mb
            have := hbn k hh u hum
            have : u ≠ x := ne_mem hu nt
            rw [G, if_neg (by omega), if_neg (by omega), if_neg (by omega), if_neg (by omega)]
          · have mu := g.mem hh (u := hd k) (by simp)
            have := mu.ne p mx
            have := mu.ne p ma
            have := mu.ne p mb
            have := hbn k hh (hd k) (by simp)
            have : hd k ≠ x := fun e => n3 (hd k) (by simp) x (by rw [hl2]; simp) e
            rw [G, if_neg (by omega), if_neg (by omega), if_neg (by omega), if_neg (by omega)]
    · rw [updR, if_neg hk]
      refine g.keep_ring k1 fun u hu => ?_
      have mu := g.mem k1 hu
      have := mu.ne p mx
      have := mu.ne p ma
      have := mu.ne p mb
      have q1 : u ≠ at_ := fun e => hk (g.apart' p k1 hh hu (by rw [e]; exact atm))
      have q2 : u ≠ gv xs (at_ + 2) := fun e => hk (g.apart' p k1 hh hu (by rw [e]; exact hnx))
      have q3 := hbn k k1 u hu
      constructor
      · rw [G, if_neg (by omega), if_neg (by omega), if_neg (by omega), if_neg (by omega)]
      · rw [G, if_neg (by omega), if_neg (by omega), if_neg (by omega), if_neg (by omega)]
  · intro k k1 u hu
    by_cases hk : k = h
    · subst hk
      rw [updR, if_pos rfl] at hu
      rcases List.mem_append.1 hu with hu | hu
      · exact g.place k k1 u (by rw [hs]; simp [hu])
      · rcases List.mem_cons.1 hu with rfl | hu
        · exact hb
        · exact g.place k k1 u (by rw [hs]; simp [hu])
    · rw [updR, if_neg hk] at hu
      exact g.place k k1 u hu
  · intro k k1
    by_cases hk : k = h
    · subst hk
      rw [updR, if_pos rfl]
      have q := g.nodup k k1
      have qb := hno k k1
      rw [hs] at q qb
      obtain ⟨a1, a2, a3⟩ := List.nodup_append.1 q
      simp only [List.mem_append, not_or] at qb
      refine List.nodup_append.2 ⟨a1, List.nodup_cons.2 ⟨qb.2, a2⟩, fun u hu v hv => ?_⟩
      rcases List.mem_cons.1 hv with rfl | hv
      · exact ne_mem hu qb.1
      · exact a3 u hu v hv
    · rw [updR, if_neg hk]
      exact g.nodup k k1
  · intro j k j1 k1 u hj hk
    have w : ∀ i, i < 13 → u ∈ updR R h (l1 ++ b :: l2) i → (u = b ∧ i = h) ∨ u ∈ R i := by
      intro i i1 hi
      by_cases e : i = h
      · subst e
        rw [updR, if_pos rfl] at hi
        rw [hs]
        rcases List.mem_append.1 hi with hi | hi
        · exact .inr (by simp [hi])
        · rcases List.mem_cons.1 hi with rfl | hi
          · exact .inl ⟨rfl, rfl⟩
          · exact .inr (by simp [hi])
      · rw [updR, if_neg e] at hi
        exact .inr hi
    rcases w j j1 hj with ⟨e1, e2⟩ | hj' <;> rcases w k k1 hk with ⟨e3, e4⟩ | hk'
    · omega
    · exact absurd (e1 ▸ hk') (hno k k1)
    · exact absurd (e3 ▸ hj') (hno j j1)
    · exact g.apart j k j1 k1 u hj' hk'
  · intro j hj
    have := hj _ mx
    have := hj _ ma
    have := hj _ mb
    rw [G, if_neg (by omega), if_neg (by omega), if_neg (by omega), if_neg (by omega)]

/-- it is put behind a head -/
theorem rg_first (p : Plc n C) (g : Rg n C xs R) (hh : h < 13) (hb : C b) (hno : ∀ k, k < 13 → b ∉ R k) :
    Rg n C (ins xs (hd h) b) (updR R h (b :: R h)) ∧ Keep C xs (ins xs (hd h) b) ∧ Pl n (hd h) ∧ Pl n b ∧ Pl n (gv xs (hd h + 2)) :=
  rg_ins p g hh (l1 := []) (l2 := R h) rfl rfl hb hno
/-- it is put behind the last -/
theorem rg_last (p : Plc n C) (g : Rg n C xs R) (hh : h < 13) (hb : C b) (hno : ∀ k, k < 13 → b ∉ R k) :
    Rg n C (ins xs (gv xs (hd h + 1)) b) (updR R h (R h ++ [b])) ∧ Keep C xs (ins xs (gv xs (hd h + 1)) b) ∧ Pl n (gv xs (hd h + 1)) ∧ Pl n b ∧ Pl n (gv xs (gv xs (hd h + 1) + 2)) :=
  rg_ins p g hh (l1 := R h) (l2 := []) (by simp) (g.path h hh).last_eq hb hno

theorem filter_split {l1 l2 : List Int} {b : Int} (n1 : b ∉ l1) (n2 : b ∉ l2) : (l1 ++ b :: l2).filter (fun x => x != b) = l1 ++ l2 := by
  rw [List.filter_append, List.filter_cons]
  have e1 : l1.filter (fun x => x != b) = l1 := List.filter_eq_self.2 fun u hu => by
    simp
    exact ne_mem hu n1
  have e2 : l2.filter (fun x => x != b) = l2 := List.filter_eq_self.2 fun u hu => by
    simp
    exact ne_mem hu n2
  rw [e1, e2]
  simp

/-- it is taken out -/
theorem rg_rem (p : Plc n C) (g : Rg n C xs R) (hh : h < 13) (hm : b ∈ R h) :
    Rg n C (rem xs b) (updR R h ((R h).filter (fun x => x != b))) ∧ Keep C xs (rem xs b) ∧ Pl n b ∧ Pl n (gv xs (b + 1)) ∧ Pl n (gv xs (b + 2)) := by
  have hp := g.path h hh
  have hnd := g.nodup' p hh
  have hb := g.place h hh b hm
  obtain ⟨l1, l2, hl⟩ := List.append_of_mem hm
  have hbm : b ∈ hd h :: R h := List.mem_cons_of_mem _ hm
  rw [hl] at hp hnd
  obtain ⟨p1, p2⟩ := Path.append.1 hp
  have am := p1.last_mem
  have xm := p2.next_mem b (by simp)
  have am' : gv xs (b + 1) ∈ hd h :: R h := by
    rw [hl]
    rcases List.mem_cons.1 am with e | e
    · rw [e]; simp
    · simp [e]
  have xm' : gv xs (b + 2) ∈ hd h :: R h := g.next hh hbm
  have ma := g.mem hh am'
  have mx := g.mem hh xm'
  have mb := g.mem hh hbm
  have G := gv_rem g.len (mb.pl p) (ma.pl p) (mx.pl p)
  obtain ⟨n1, n2, n3'⟩ := List.nodup_append.1 (show ((hd h :: l1) ++ (b :: l2)).Nodup from hnd)
  have n3 : ∀ u ∈ hd h :: l1, u ∉ b :: l2 := fun u hu hv => n3' u hu u hv rfl
  have n4 := (List.nodup_cons.1 n2).1
  have ab : gv xs (b + 1) ≠ b := fun e => n3 _ am (by rw [e]; simp)
  have hbh := g.nothead p hh hm h hh
  have xb : gv xs (b + 2) ≠ b := by
    rcases xm with e | e
    · rw [e]
      exact fun e => hbh e.symm
    · exact ne_mem e n4
  have hf : (R h).filter (fun x => x != b) = l1 ++ l2 := by
    rw [hl]
    exact filter_split (fun hb => n3 b (by simp [hb]) (by simp)) n4
  have hab := ma.ne p mb
  have hxb := mx.ne p mb
  have hax := ma.ne p mx
  refine ⟨⟨by rw [rem_length, g.len], ?_, ?_, ?_, ?_⟩, ?_, mb.pl p, ma.pl p, mx.pl p⟩
  · intro k k1
    by_cases hk : k = h
    · subst hk
      rw [updR, if_pos rfl, hf]
      have q3 : ∀ u ∈ hd k :: l1, u ∈ hd k :: R k ∧ u ≠ b := fun u hu => by
        have hum : u ∈ hd k :: R k := by
          rw [hl]
          rcases List.mem_cons.1 hu with e | e
          · rw [e]; simp
          · simp [e]
        exact ⟨hum, fun e => n3 u hu (by rw [e]; simp)⟩
      have step : ∀ z, z = gv xs (b + 2) → (∀ u ∈ l1, u ≠ z) → Path (rem xs b) (hd k) l1 z := by
        intro z hz hzn
        refine p1.retarget n1 ?_ ?_ ?_ ?_
        · rw [G, if_neg (by omega), if_neg (by omega), if_neg (by omega), if_pos rfl, hz]
        · rw [G, if_neg (by omega), if_neg (by omega), if_pos (by rw [hz])]
        · intro u hu hne
          obtain ⟨hum, ub⟩ := q3 u hu
          have mu := g.mem hh hum
          have := mu.ne p ma
          have := mu.ne p mx
          have := mu.ne p mb
          rw [G, if_neg (by omega), if_neg (by omega), if_neg (by omega), if_neg (by omega)]
        · intro u hu
          obtain ⟨hum, ub⟩ := q3 u (List.mem_cons_of_mem _ hu)
          have mu := g.mem hh hum
          have := mu.ne p ma
          have := mu.ne p mx
          have := mu.ne p mb
          have := hzn u hu
          rw [G, if_neg (by omega), if_neg (by omega), if_neg (by omega), if_neg (by omega)]
      cases l2 with
      | nil =>
        rw [List.append_nil]
        have e : gv xs (b + 2) = hd k := p2.1
        exact step (hd k) e.symm (fun u hu => fun e' => (List.nodup_cons.1 n1).1 (by rw [← e']; exact hu))
      | cons y t =>
        have e : gv xs (b + 2) = y := p2.1.1
        have n5 := (List.nodup_cons.1 (List.nodup_cons.1 n2).2).1
        refine Path.append.2 ⟨step y e.symm (fun u hu => fun e' => n3 u (by simp [hu]) (by rw [e']; simp)), p2.2.frame ?_ ?_ ?_⟩
        · intro u hu
          have hum : u ∈ hd k :: R k := by rw [hl]; exact List.mem_cons_of_mem _ (by simp at hu ⊢; exact .inr (.inr hu))
          have mu := g.mem hh hum
          have := mu.ne p ma
          have := mu.ne p mx
          have := mu.ne p mb
          have q1 := ne_mem hu n4
          have q2 : u ≠ gv xs (b + 1) := fun e' => n3 _ am (by rw [← e']; exact List.mem_cons_of_mem _ hu)
          rw [G, if_neg (by omega), if_neg (by omega), if_neg (by omega), if_neg (by omega)]
        · intro u hu
          have hum : u ∈ hd k :: R k := by rw [hl]; exact List.mem_cons_of_mem _ (by simp; exact .inr (.inr (.inr hu)))
          have mu := g.mem hh hum
          have := mu.ne p ma
          have := mu.ne p mx
          have := mu.ne p mb
          have q1 := ne_mem (List.mem_cons_of_mem y hu) n4
          have q2 := ne_mem hu n5
          rw [G, if_neg (by omega), if_neg (by omega), if_neg (by omega), if_neg (by omega)]
        · have mu := g.mem hh (u := hd k) (by simp)
          have := mu.ne p ma
          have := mu.ne p mx
          have := mu.ne p mb
          have q1 : y ≠ hd k := fun e' => (List.nodup_cons.1 hnd).1 (by rw [← e']; simp)
          rw [G, if_neg (by omega), if_neg (by omega), if_neg (by omega), if_neg (by omega)]
    · rw [updR, if_neg hk]
      refine g.keep_ring k1 fun u hu => ?_
      have mu := g.mem k1 hu
      have := mu.ne p ma
      have := mu.ne p mx
      have := mu.ne p mb
      have q1 : u ≠ gv xs (b + 1) := fun e => hk (g.apart' p k1 hh hu (by rw [e]; exact am'))
      have q2 : u ≠ gv xs (b + 2) := fun e => hk (g.apart' p k1 hh hu (by rw [e]; exact xm'))
      have q3 : u ≠ b := fun e => hk (g.apart' p k1 hh hu (by rw [e]; exact hbm))
      constructor
      · rw [G, if_neg (by omega), if_neg (by omega), if_neg (by omega), if_neg (by omega)]
      · rw [G, if_neg (by omega), if_neg (by omega), if_neg (by omega), if_neg (by omega)]
  · intro k k1 u hu
    by_cases hk : k = h
    · subst hk
      rw [updR, if_pos rfl] at hu
      exact g.place k k1 u (List.mem_filter.1 hu).1
    · rw [updR, if_neg hk] at hu
      exact g.place k k1 u hu
  · intro k k1
    by_cases hk : k = h
    · subst hk
      rw [updR, if_pos rfl]
      exact (g.nodup k k1).filter _
    · rw [updR, if_neg hk]
      exact g.nodup k k1
  · intro j k j1 k1 u hj hk
    have w : ∀ i, u ∈ updR R h ((R h).filter (fun x => x != b)) i → u ∈ R i := by
      intro i hi
      by_cases e : i = h
      · subst e
        rw [updR, if_pos rfl] at hi
        exact (List.mem_filter.1 hi).1
      · rwa [updR, if_neg e] at hi
    exact g.apart j k j1 k1 u (w j hj) (w k hk)
  · intro j hj
    have := hj _ mx
    have := hj _ ma
    have := hj _ mb
    rw [G, if_neg (by omega), if_neg (by omega), if_neg (by omega), if_neg (by omega)]

theorem Mem.n12 (p : Plc n C) (hu : Mem C u) (hv : Mem C v) : u + 1 ≠ v + 2 := (hu.ne p hv).1
theorem Mem.n21 (p : Plc n C) (hu : Mem C u) (hv : Mem C v) : u + 2 ≠ v + 1 := fun e => (hu.ne p hv).2.1 e.symm
theorem n11 (h : u ≠ v) : u + 1 ≠ v + 1 := by omega
theorem n22 (h : u ≠ v) : u + 2 ≠ v + 2 := by omega

/-- the words of Join, one by one -/
theorem joi_words (p : Plc n C) {a f l z : Int} (hn : xs.length = n) (ma : Mem C a) (mb : Mem C b) (mf : Mem C f) (ml : Mem C l) (mz : Mem C z) (ef : gv xs (b + 2) = f) (el : gv xs (b + 1) = l) (ez : gv xs (a + 1) = z)
    (hne : f ≠ b) (hab : a ≠ b) (hlb : l ≠ b) (hzb : z ≠ b) (hfa : f ≠ a) (hzl : z ≠ l) :
    gv (joi xs a b) (b + 2) = b ∧ gv (joi xs a b) (b + 1) = b ∧ gv (joi xs a b) (a + 1) = l ∧ gv (joi xs a b) (l + 2) = a ∧ gv (joi xs a b) (f + 1) = z ∧ gv (joi xs a b) (z + 2) = f ∧
    (∀ u, Mem C u → u ≠ b → u ≠ l → u ≠ z → gv (joi xs a b) (u + 2) = gv xs (u + 2)) ∧ (∀ u, Mem C u → u ≠ b → u ≠ a → u ≠ f → gv (joi xs a b) (u + 1) = gv xs (u + 1)) ∧ Keep C xs (joi xs a b) := by
  have G := gv_joi hn (ma.pl p) (mb.pl p) (by rw [ef]; exact mf.pl p) (by rw [el]; exact ml.pl p) (by rw [ez]; exact mz.pl p) (by rw [ef]; exact hne)
  rw [ef, el, ez] at G
  refine ⟨?_, ?_, ?_, ?_, ?_, ?_, fun u mu q1 q2 q3 => ?_, fun u mu q1 q2 q3 => ?_, fun j hj => ?_⟩
  · rw [G, if_pos rfl]
  · rw [G, if_neg (mb.n12 p mb), if_pos rfl]
  · rw [G, if_neg (ma.n12 p mb), if_neg (n11 hab), if_pos rfl]
  · rw [G, if_neg (n22 hlb), if_neg (ml.n21 p mb), if_neg (ml.n21 p ma), if_pos rfl]
  · rw [G, if_neg (mf.n12 p mb), if_neg (n11 hne), if_neg (n11 hfa), if_neg (mf.n12 p ml), if_pos rfl]
  · rw [G, if_neg (n22 hzb), if_neg (mz.n21 p mb), if_neg (mz.n21 p ma), if_neg (n22 hzl), if_neg (mz.n21 p mf), if_pos rfl]
  · rw [G, if_neg (n22 q1), if_neg (mu.n21 p mb), if_neg (mu.n21 p ma), if_neg (n22 q2), if_neg (mu.n21 p mf), if_neg (n22 q3)]
  · rw [G, if_neg (mu.n12 p mb), if_neg (n11 q1), if_neg (n11 q2), if_neg (mu.n12 p ml), if_neg (n11 q3), if_neg (mu.n12 p mz)]
  · rw [G, if_neg (hj _ mb).2, if_neg (hj _ mb).1, if_neg (hj _ ma).1, if_neg (hj _ ml).2, if_neg (hj _ mf).1, if_neg (hj _ mz).2]

/-- a ring's members go into another ring -/
theorem rg_joi (p : Plc n C) (g : Rg n C xs R) (h1 : h < 13) (k1 : k < 13) (hne : h ≠ k) :
    Rg n C (joi xs (hd h) (hd k)) (updR (updR R h (R h ++ R k)) k []) ∧ Keep C xs (joi xs (hd h) (hd k)) ∧ Pl n (hd h) ∧ Pl n (hd k) ∧ Pl n (gv xs (hd k + 2)) ∧ Pl n (gv xs (hd k + 1)) ∧ Pl n (gv xs (hd h + 1)) := by
  have hp := g.path h h1
  have hq := g.path k k1
  have fm := g.next k1 (u := hd k) (by simp)
  have lm := g.last k1
  have zm := g.last h1
  have mh := g.mem h1 (u := hd h) (by simp)
  have mk := g.mem k1 (u := hd k) (by simp)
  have mf := g.mem k1 fm
  have ml := g.mem k1 lm
  have mz := g.mem h1 zm
  have memb : ∀ j u, u ∈ updR (updR R h (R h ++ R k)) k [] j → j ≠ k ∧ (j = h ∧ (u ∈ R h ∨ u ∈ R k) ∨ j ≠ h ∧ u ∈ R j) := by
    intro j u hu
    by_cases e1 : j = k
    · rw [updR, if_pos e1] at hu
      exact absurd hu (by simp)
    · rw [updR, if_neg e1] at hu
      refine ⟨e1, ?_⟩
      by_cases e2 : j = h
      · rw [updR, if_pos e2] at hu
        exact .inl ⟨e2, List.mem_append.1 hu⟩
      · rw [updR, if_neg e2] at hu
        exact .inr ⟨e2, hu⟩
  have parts : ∀ (ys : List Int), (∀ j, j < 13 → Path ys (hd j) (updR (updR R h (R h ++ R k)) k [] j) (hd j)) → ys.length = n → Rg n C ys (updR (updR R h (R h ++ R k)) k []) := by
    intro ys hpath hlen
    refine ⟨hlen, hpath, ?_, ?_, ?_⟩
    · intro j j1 u hu
      obtain ⟨-, ⟨rfl, e | e⟩ | ⟨_, e⟩⟩ := memb j u hu
      · exact g.place j j1 u e
      · exact g.place k k1 u e
      · exact g.place j j1 u e
    · intro j j1
      unfold updR
      split
      · simp
      · split
        · exact List.nodup_append.2 ⟨g.nodup h h1, g.nodup k k1, fun u hu v hv e => hne (g.apart h k h1 k1 u hu (e ▸ hv))⟩
        · exact g.nodup j j1
    · intro i j i1 j1 u hi hj
      obtain ⟨a1, a2⟩ := memb i u hi
      obtain ⟨b1, b2⟩ := memb j u hj
      rcases a2 with ⟨a2, a3 | a3⟩ | ⟨a2, a3⟩ <;> rcases b2 with ⟨b2, b3 | b3⟩ | ⟨b2, b3⟩
      · omega
      · omega
      · exact absurd (g.apart h j h1 j1 u a3 b3).symm b2
      · omega
      · omega
      · exact absurd (g.apart k j k1 j1 u a3 b3).symm b1
      · exact absurd (g.apart h i h1 i1 u b3 a3).symm a2
      · exact absurd (g.apart k i k1 i1 u b3 a3).symm a1
      · exact g.apart i j i1 j1 u a3 b3
  refine and_assoc.1 ⟨?_, mh.pl p, mk.pl p, mf.pl p, ml.pl p, mz.pl p⟩
  obtain hl | ⟨f, t, hl⟩ : R k = [] ∨ ∃ f t, R k = f :: t := by cases R k <;> simp
  · rw [hl] at hq
    have e : gv xs (hd k + 2) = hd k := hq.1
    rw [joi, if_pos e]
    refine ⟨parts xs ?_ g.len, Keep.refl _ _⟩
    intro j j1
    by_cases e1 : j = k
    · rw [updR, if_pos e1, e1]
      exact hq
    · rw [updR, if_neg e1]
      by_cases e2 : j = h
      · rw [updR, if_pos e2, e2, hl, List.append_nil]
        exact hp
      · rw [updR, if_neg e2]
        exact g.path j j1
  · rw [hl] at hq
    have e : gv xs (hd k + 2) = f := hq.1.1
    have fR : f ∈ R k := by rw [hl]; simp
    rw [e] at mf fm
    have lt := hq.2.last_mem
    have hnd := g.nodup' p k1
    rw [hl] at hnd
    obtain ⟨n1, n2⟩ := List.nodup_cons.1 hnd
    have lk : gv xs (hd k + 1) ≠ hd k := ne_mem lt n1
    have zk : gv xs (hd h + 1) ≠ hd k := fun e' => hne (g.apart' p h1 k1 zm (by rw [e']; simp))
    have zl : gv xs (hd h + 1) ≠ gv xs (hd k + 1) := fun e' => hne (g.apart' p h1 k1 zm (by rw [e']; exact lm))
    have hkne : hd h ≠ hd k := fun e => hne (hd_inj e)
    obtain ⟨w1, w2, w3, w4, w5, w6, w7, w8, w9⟩ := joi_words p g.len mh mk mf ml mz e rfl rfl (g.nothead p k1 fR k k1) hkne lk zk (g.nothead p k1 fR h h1) zl
    refine ⟨parts _ ?_ (by rw [joi_length, g.len]), w9⟩
    intro j j1
    by_cases e1 : j = k
    · rw [updR, if_pos e1, e1]
      exact ⟨w1, w2⟩
    · rw [updR, if_neg e1]
      by_cases e2 : j = h
      · rw [updR, if_pos e2, e2, hl]
        refine Path.append.2 ⟨hp.retarget (g.nodup' p h1) w6 w5 ?_ ?_, hq.2.retarget n2 w4 w3 ?_ ?_⟩
        · intro u hu hne'
          exact w7 u (g.mem h1 hu) (fun e' => hne (g.apart' p h1 k1 hu (by rw [e']; simp))) (fun e' => hne (g.apart' p h1 k1 hu (by rw [e']; exact lm))) hne'
        · intro u hu
          have hu' : u ∈ hd h :: R h := List.mem_cons_of_mem _ hu
          exact w8 u (g.mem h1 hu') (g.nothead p h1 hu k k1) (g.nothead p h1 hu h h1) (fun e' => hne (g.apart' p h1 k1 hu' (by rw [e']; exact fm)))
        · intro u hu hne'
          have hu' : u ∈ hd k :: R k := by rw [hl]; exact List.mem_cons_of_mem _ hu
          exact w7 u (g.mem k1 hu') (ne_mem hu n1) hne' (fun e' => hne (g.apart' p h1 k1 zm (by rw [← e']; exact hu')))
        · intro u hu
          have hu2 : u ∈ R k := by rw [hl]; exact List.mem_cons_of_mem _ hu
          exact w8 u (g.mem k1 (List.mem_cons_of_mem _ hu2)) (g.nothead p k1 hu2 k k1) (g.nothead p k1 hu2 h h1) (ne_mem hu (List.nodup_cons.1 n2).1)
      · rw [updR, if_neg e2]
        refine g.keep_ring j1 fun u hu => ⟨w7 u (g.mem j1 hu) ?_ ?_ ?_, w8 u (g.mem j1 hu) ?_ ?_ ?_⟩
        · exact fun e => e1 (g.apart' p j1 k1 hu (by rw [e]; simp))
        · exact fun e => e1 (g.apart' p j1 k1 hu (by rw [e]; exact lm))
        · exact fun e => e2 (g.apart' p j1 h1 hu (by rw [e]; exact zm))
        · exact fun e => e1 (g.apart' p j1 k1 hu (by rw [e]; simp))
        · exact fun e => e2 (g.apart' p j1 h1 hu (by rw [e]; simp))
        · exact fun e => e1 (g.apart' p j1 k1 hu (by rw [e]; exact fm))

/-- what Init leaves of heads that are alone -/
theorem ini_path (hn : xs.length = n) (hb : Pl n b) : Path (ini xs b) b [] b := by
  refine ⟨?_, ?_⟩
  · rw [gv_ini hn hb, if_pos rfl]
  · rw [gv_ini hn hb, if_neg (by omega), if_pos rfl]
theorem ini_far (hn : xs.length = n) (hb : Pl n b) {a : Int} (ha : Path xs a [] a) (h3 : a + 3 ≤ b ∨ b + 3 ≤ a) : Path (ini xs b) a [] a := by
  refine ⟨?_, ?_⟩
  · rw [gv_ini hn hb, if_neg (by omega), if_neg (by omega)]
    exact ha.1
  · rw [gv_ini hn hb, if_neg (by omega), if_neg (by omega)]
    exact ha.2
theorem rg_start (hlen : xs.length = n) (h : ∀ j, j < 13 → Path xs (hd j) [] (hd j)) : Rg n C xs (fun _ => []) :=
  ⟨hlen, h, fun _ _ _ hb => absurd hb (by simp), fun _ _ => by simp, fun _ _ _ _ _ hb => absurd hb (by simp)⟩
end
end Go.Proofs.YtclcnepkgjcmcaaDoor
