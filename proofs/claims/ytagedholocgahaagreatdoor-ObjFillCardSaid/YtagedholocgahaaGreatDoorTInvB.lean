/- A cell goes from ring to ring: what is left of the heap. Plain mathematics. -/
import Derived.Test.YtagedholocgahaaGreatDoorTInv
namespace Go.Proofs.YtagedholocgahaaGreatDoor

/-- what a move asks of the words -/
structure MoveOk (ws : List Int) (b at_ : Int) : Prop where
  short : ws.length ≤ 1048576
  pb : Pl ws.length b
  p1 : Pl ws.length (gv ws (b + 1))
  p2 : Pl ws.length (gv ws (b + 2))
  pa : Pl ws.length at_
  px : Pl ws.length (gv (rem ws b) (at_ + 2))
/-- what going to the end of the tasks asks of the words -/
structure WaitOk (ws : List Int) (b : Int) : Prop where
  short : ws.length ≤ 1048576
  pb : Pl ws.length b
  p1 : Pl ws.length (gv ws (b + 1))
  p2 : Pl ws.length (gv ws (b + 2))
  ph : Pl ws.length (hd 12)
  pl : Pl ws.length (gv (rem ws b) (hd 12 + 1))
  px : Pl ws.length (gv (rem ws b) (gv (rem ws b) (hd 12 + 1) + 2))

/-- out of the ring h, to the beginning, or the end, of the ring k -/
def outR (R : Nat → List Int) (h : Nat) (b : Int) : Nat → List Int := updR R h ((R h).filter (fun x => x != b))
def mvR (R : Nat → List Int) (h k : Nat) (b : Int) : Nat → List Int := updR (outR R h b) k (b :: outR R h b k)
def mvL (R : Nat → List Int) (h k : Nat) (b : Int) : Nat → List Int := updR (outR R h b) k (outR R h b k ++ [b])
theorem mvR_far {R : Nat → List Int} {h k j : Nat} (b : Int) (h1 : j ≠ h) (h2 : j ≠ k) : mvR R h k b j = R j := by rw [mvR, updR, if_neg h2, outR, updR, if_neg h1]
theorem mvR_from {R : Nat → List Int} {h k : Nat} (b : Int) (h1 : h ≠ k) : mvR R h k b h = (R h).filter (fun x => x != b) := by rw [mvR, updR, if_neg h1, outR, updR, if_pos rfl]
theorem mvR_to {R : Nat → List Int} {h k : Nat} (b : Int) (h1 : h ≠ k) : mvR R h k b k = b :: R k := by rw [mvR, updR, if_pos rfl, outR, updR, if_neg (fun e => h1 e.symm)]
theorem mvL_far {R : Nat → List Int} {h k j : Nat} (b : Int) (h1 : j ≠ h) (h2 : j ≠ k) : mvL R h k b j = R j := by rw [mvL, updR, if_neg h2, outR, updR, if_neg h1]
theorem mvL_same {R : Nat → List Int} {h : Nat} (b : Int) : mvL R h h b h = (R h).filter (fun x => x != b) ++ [b] := by rw [mvL, updR, if_pos rfl, outR, updR, if_pos rfl]
/-- the members of the ring k go behind those of the ring h -/
def joR (R : Nat → List Int) (h k : Nat) : Nat → List Int := updR (updR R h (R h ++ R k)) k []

section
theorem sumTo_congr {f g : Nat → Nat} : ∀ {n : Nat}, (∀ j, j < n → f j = g j) → sumTo f n = sumTo g n
  | 0, _ => rfl
  | n + 1, h => by rw [sumTo, sumTo, sumTo_congr (fun j hj => h j (by omega)), h n (by omega)]
theorem sumTo_upd {k : Nat} (F : List Int → Nat) (R : Nat → List Int) (l : List Int) : ∀ {n : Nat}, k < n → sumTo (fun j => F (updR R k l j)) n + F (R k) = sumTo (fun j => F (R j)) n + F l
  | 0, h => absurd h (by omega)
  | n + 1, h => by
    by_cases e : k = n
    · subst e
      have : sumTo (fun j => F (updR R k l j)) k = sumTo (fun j => F (R j)) k := sumTo_congr fun j hj => by rw [updR, if_neg (by omega)]
      simp only [sumTo, this]
      rw [updR, if_pos rfl]
      omega
    · have := sumTo_upd (k := k) F R l (n := n) (by omega)
      simp only [sumTo]
      rw [show updR R k l n = R n by rw [updR, if_neg (fun e' => e e'.symm)]]
      omega
theorem fl_cons (G : Geo) (c : Nat) (b : Int) (l : List Int) : G.fl c (b :: l) = G.fl c l + (if G.cls b = c then 1 else 0) := by
  unfold Geo.fl
  rw [List.filter_cons]
  by_cases e : G.cls b = c <;> simp [e]
theorem fl_append (G : Geo) (c : Nat) (l m : List Int) : G.fl c (l ++ m) = G.fl c l + G.fl c m := by
  unfold Geo.fl
  rw [List.filter_append, List.length_append]
theorem fl_nil (G : Geo) (c : Nat) : G.fl c [] = 0 := rfl
theorem fl_out (G : Geo) (c : Nat) {b : Int} {l : List Int} (hn : l.Nodup) (hb : b ∈ l) : G.fl c (l.filter (fun x => x != b)) + (if G.cls b = c then 1 else 0) = G.fl c l := by
  obtain ⟨l1, l2, rfl⟩ := List.append_of_mem hb
  obtain ⟨n1, n2, n3⟩ := List.nodup_append.1 hn
  rw [filter_split (fun hx => n3 b hx b (by simp) rfl) (List.nodup_cons.1 n2).1, fl_append, fl_append, fl_cons]
  omega
theorem fl_all (G : Geo) {c : Nat} {l : List Int} (h : ∀ b ∈ l, G.cls b = c) : G.fl c l = l.length := by
  unfold Geo.fl
  rw [List.filter_eq_self.2 fun b hb => by simp [h b hb]]
theorem fl_none (G : Geo) {c d : Nat} {l : List Int} (h : ∀ b ∈ l, G.cls b = d) (hne : d ≠ c) : G.fl c l = 0 := by
  unfold Geo.fl
  rw [List.filter_eq_nil_iff.2 fun b hb => by simp [h b hb, hne]]
  rfl
theorem tot_out {R : Nat → List Int} (G : Geo) (c : Nat) {b : Int} {h : Nat} (hh : h < 13) (hn : (R h).Nodup) (hb : b ∈ R h) :
    sumTo (fun j => G.fl c (outR R h b j)) 13 + (if G.cls b = c then 1 else 0) = sumTo (fun j => G.fl c (R j)) 13 := by
  have := sumTo_upd (G.fl c) R ((R h).filter (fun x => x != b)) hh
  have := fl_out G c hn hb
  unfold outR
  omega
theorem tot_mvR {R : Nat → List Int} (G : Geo) (c : Nat) {b : Int} {h k : Nat} (hh : h < 13) (hk : k < 13) (hn : (R h).Nodup) (hb : b ∈ R h) :
    sumTo (fun j => G.fl c (mvR R h k b j)) 13 = sumTo (fun j => G.fl c (R j)) 13 := by
  have := tot_out G c hh hn hb
  have := sumTo_upd (G.fl c) (outR R h b) (b :: outR R h b k) hk
  rw [fl_cons] at this
  unfold mvR
  omega
theorem tot_mvL {R : Nat → List Int} (G : Geo) (c : Nat) {b : Int} {h k : Nat} (hh : h < 13) (hk : k < 13) (hn : (R h).Nodup) (hb : b ∈ R h) :
    sumTo (fun j => G.fl c (mvL R h k b j)) 13 = sumTo (fun j => G.fl c (R j)) 13 := by
  have := tot_out G c hh hn hb
  have := sumTo_upd (G.fl c) (outR R h b) (outR R h b k ++ [b]) hk
  rw [fl_append, fl_cons, fl_nil] at this
  unfold mvL
  omega
theorem tot_joR {R : Nat → List Int} (G : Geo) (c : Nat) {h k : Nat} (hh : h < 13) (hk : k < 13) (hne : h ≠ k) :
    sumTo (fun j => G.fl c (joR R h k j)) 13 = sumTo (fun j => G.fl c (R j)) 13 := by
  have h1 := sumTo_upd (G.fl c) R (R h ++ R k) hh
  have h2 := sumTo_upd (G.fl c) (updR R h (R h ++ R k)) [] hk
  rw [fl_append] at h1
  rw [fl_nil, show updR R h (R h ++ R k) k = R k by rw [updR, if_neg (fun e => hne e.symm)]] at h2
  unfold joR
  omega
end

section
variable {n : Nat} {C : Int → Prop} {xs ys : List Int} {R : Nat → List Int} {h j : Nat} {b x : Int}
theorem Rg.links (g : Rg n C xs R) (hl : ys.length = n) (e : ∀ u, Mem C u → gv ys (u + 1) = gv xs (u + 1) ∧ gv ys (u + 2) = gv xs (u + 2)) : Rg n C ys R :=
  ⟨hl, fun _ hk => g.keep_ring hk fun u hu => ⟨(e u (g.mem hk hu)).2, (e u (g.mem hk hu)).1⟩, g.place, g.nodup, g.apart⟩

theorem mem_outR (g : Rg n C xs R) (hh : h < 13) (hb : b ∈ R h) (hj : j < 13) : x ∈ outR R h b j ↔ x ≠ b ∧ x ∈ R j := by
  by_cases e : j = h
  · subst e
    rw [outR, updR, if_pos rfl, List.mem_filter]
    simp [and_comm]
  · rw [outR, updR, if_neg e]
    exact ⟨fun hx => ⟨fun ex => e (g.apart j h hj hh x hx (ex ▸ hb)), hx⟩, fun hx => hx.2⟩
theorem mem_mvR {k : Nat} (g : Rg n C xs R) (hh : h < 13) (hb : b ∈ R h) (hk : k < 13) (hj : j < 13) : x ∈ mvR R h k b j ↔ (x = b ∧ j = k) ∨ (x ≠ b ∧ x ∈ R j) := by
  by_cases e : j = k
  · subst e
    rw [mvR, updR, if_pos rfl, List.mem_cons, mem_outR g hh hb hj]
    by_cases ex : x = b <;> simp [ex]
  · rw [mvR, updR, if_neg e, mem_outR g hh hb hj]
    by_cases ex : x = b <;> simp [ex, e]
theorem mem_mvL {k : Nat} (g : Rg n C xs R) (hh : h < 13) (hb : b ∈ R h) (hk : k < 13) (hj : j < 13) : x ∈ mvL R h k b j ↔ (x = b ∧ j = k) ∨ (x ≠ b ∧ x ∈ R j) := by
  by_cases e : j = k
  · subst e
    rw [mvL, updR, if_pos rfl, List.mem_append, mem_outR g hh hb hj]
    by_cases ex : x = b <;> simp [ex]
  · rw [mvL, updR, if_neg e, mem_outR g hh hb hj]
    by_cases ex : x = b <;> simp [ex, e]
theorem length_filter_ne {l : List Int} (hn : l.Nodup) (hb : b ∈ l) : (l.filter (fun x => x != b)).length + 1 = l.length := by
  obtain ⟨l1, l2, rfl⟩ := List.append_of_mem hb
  obtain ⟨n1, n2, n3⟩ := List.nodup_append.1 hn
  rw [filter_split (fun hx => n3 b hx b (by simp) rfl) (List.nodup_cons.1 n2).1]
  simp
  omega

theorem rg_out (p : Plc n C) (g : Rg n C xs R) (hh : h < 13) (hb : b ∈ R h) : Rg n C (rem xs b) (outR R h b) ∧ Keep C xs (rem xs b) ∧ Pl n b ∧ Pl n (gv xs (b + 1)) ∧ Pl n (gv xs (b + 2)) := rg_rem p g hh hb
theorem rg_mv {k : Nat} (p : Plc n C) (g : Rg n C xs R) (hs : n ≤ 1048576) (hh : h < 13) (hb : b ∈ R h) (hk : k < 13) :
    Rg n C (ins (rem xs b) (hd k) b) (mvR R h k b) ∧ Keep C xs (ins (rem xs b) (hd k) b) ∧ MoveOk xs b (hd k) := by
  obtain ⟨g1, k1, q1, q2, q3⟩ := rg_out p g hh hb
  obtain ⟨g2, k2, q4, q5, q6⟩ := rg_first p g1 hk (g.place h hh b hb) (fun i hi hm => ((mem_outR g hh hb hi).1 hm).1 rfl)
  have e := g.len
  exact ⟨g2, k1.trans k2, ⟨by omega, by rw [e]; exact q1, by rw [e]; exact q2, by rw [e]; exact q3, by rw [e]; exact q4, by rw [e]; exact q6⟩⟩
theorem rg_mvL (p : Plc n C) (g : Rg n C xs R) (hs : n ≤ 1048576) (hh : h < 13) (hb : b ∈ R h) :
    Rg n C (ins (rem xs b) (gv (rem xs b) (hd 12 + 1)) b) (mvL R h 12 b) ∧ Keep C xs (ins (rem xs b) (gv (rem xs b) (hd 12 + 1)) b) ∧ WaitOk xs b := by
  obtain ⟨g1, k1, q1, q2, q3⟩ := rg_out p g hh hb
  obtain ⟨g2, k2, q4, q5, q6⟩ := rg_last p g1 (h := 12) (by omega) (g.place h hh b hb) (fun i hi hm => ((mem_outR g hh hb hi).1 hm).1 rfl)
  have e := g.len
  have mh : Mem C (hd 12) := .inl ⟨12, by omega, rfl⟩
  exact ⟨g2, k1.trans k2, ⟨by omega, by rw [e]; exact q1, by rw [e]; exact q2, by rw [e]; exact q3, by rw [e]; exact mh.pl p, by rw [e]; exact q4, by rw [e]; exact q6⟩⟩

/-- words that are words -/
def Rng (xs : List Int) : Prop := ∀ j, 0 ≤ gv xs j ∧ gv xs j < 18446744073709551616
theorem Rng.sv (h : Rng xs) (i : Int) {v : Int} (v0 : 0 ≤ v) (v1 : v < 18446744073709551616) : Rng (sv xs i v) := by
  intro j
  cases hi : inside xs.length i
  · rw [Go.Proofs.YtagedholocgahaaGreatDoor.sv, hi]
    exact h j
  · rw [gv_sv _ _ hi]
    split
    · exact ⟨v0, v1⟩
    · exact h j
theorem Rng.ini (h : Rng xs) {b : Int} (b0 : 0 ≤ b) (b1 : b < 18446744073709551616) : Rng (ini xs b) := (h.sv _ b0 b1).sv _ b0 b1
theorem Rng.ins (h : Rng xs) {a b : Int} (a0 : 0 ≤ a) (a1 : a < 18446744073709551616) (b0 : 0 ≤ b) (b1 : b < 18446744073709551616) : Rng (ins xs a b) :=
  (((h.sv _ a0 a1).sv _ (h _).1 (h _).2).sv _ b0 b1).sv _ b0 b1
theorem Rng.rem (h : Rng xs) {b : Int} (b0 : 0 ≤ b) (b1 : b < 18446744073709551616) : Rng (rem xs b) :=
  ((h.sv _ (h _).1 (h _).2).sv _ (h _).1 (h _).2).ini b0 b1
theorem Rng.joi (h : Rng xs) {a b : Int} (a0 : 0 ≤ a) (a1 : a < 18446744073709551616) (b0 : 0 ≤ b) (b1 : b < 18446744073709551616) : Rng (joi xs a b) := by
  unfold Go.Proofs.YtagedholocgahaaGreatDoor.joi
  split
  · exact h
  · exact ((((h.sv _ (h _).1 (h _).2).sv _ (h _).1 (h _).2).sv _ a0 a1).sv _ (h _).1 (h _).2).ini b0 b1
end

section
variable {B : Int} {G : Geo} {H : Hp} {R : Nat → List Int} {b : Int} {h k : Nat}
theorem Pl.word {n : Nat} {a : Int} (p : Pl n a) (hn : n ≤ 1048576) : 0 ≤ a ∧ a < 18446744073709551616 := by
  obtain ⟨h0, h1⟩ := p
  omega
theorem hd_word (k : Nat) (hk : k < 13) : 0 ≤ hd k ∧ hd k < 18446744073709551616 := by unfold hd; omega

/-- the words of a heap in which a cell has got another mark -/
theorem Inv.marked (i : Inv B G H R) (hb : G.C b) {m : Int} (m0 : 0 ≤ m) (m1 : m < 18446744073709551616) :
    Rg H.ws.length G.C (sv H.ws b m) R ∧ Rng (sv H.ws b m) ∧ (∀ x, G.C x → gv (sv H.ws b m) x = if x = b then m else gv H.ws x) ∧ (∀ j, G.data j → gv (sv H.ws b m) j = gv H.ws j) := by
  have p := i.plc
  have G1 := fun j => gv_sv m j (i.into hb)
  refine ⟨i.rg.links (sv_length _ _ _) fun u hu => ?_, (show Rng H.ws from i.wrd).sv _ m0 m1, fun x _ => G1 x, fun j hj => ?_⟩
  · have := Mem.mark p hb hu
    rw [G1, G1, if_neg (by omega), if_neg (by omega)]
    exact ⟨rfl, rfl⟩
  · rw [G1, if_neg (hj b (.inr hb)).1]

/-- the words of a heap in which a cell has got another mark and another ring -/
structure Moved (G : Geo) (ws ws' : List Int) (b m : Int) : Prop where
  len : ws'.length = ws.length
  rng : Rng ws'
  marks : ∀ x, G.C x → gv ws' x = if x = b then m else gv ws x
  data : ∀ j, G.data j → gv ws' j = gv ws j
theorem Inv.mv (i : Inv B G H R) (hh : h < 13) (hb : b ∈ R h) (hk : k < 13) {m : Int} (m0 : 0 ≤ m) (m1 : m < 18446744073709551616) :
    Rg H.ws.length G.C (ins (rem (sv H.ws b m) b) (hd k) b) (mvR R h k b) ∧ Moved G H.ws (ins (rem (sv H.ws b m) b) (hd k) b) b m ∧ MoveOk (sv H.ws b m) b (hd k) := by
  have p := i.plc
  have hC := i.rg.place h hh b hb
  obtain ⟨g1, r1, k1, d1⟩ := i.marked hC m0 m1
  obtain ⟨g2, k2, q⟩ := rg_mv p g1 i.short hh hb hk
  have hw := Pl.word (Mem.pl p (.inr hC)) i.short
  have hw' := hd_word k hk
  refine ⟨g2, ⟨by rw [g2.len], (r1.rem hw.1 hw.2).ins hw'.1 hw'.2 hw.1 hw.2, fun x hx => ?_, fun j hj => ?_⟩, q⟩
  · rw [k2 x fun u hu => Mem.mark p hx hu, k1 x hx]
  · rw [k2 j fun u hu => (hj u hu).2, d1 j hj]
theorem Inv.mvl (i : Inv B G H R) (hh : h < 13) (hb : b ∈ R h) {m : Int} (m0 : 0 ≤ m) (m1 : m < 18446744073709551616) :
    Rg H.ws.length G.C (ins (rem (sv H.ws b m) b) (gv (rem (sv H.ws b m) b) (hd 12 + 1)) b) (mvL R h 12 b) ∧ Moved G H.ws (ins (rem (sv H.ws b m) b) (gv (rem (sv H.ws b m) b) (hd 12 + 1)) b) b m ∧ WaitOk (sv H.ws b m) b := by
  have p := i.plc
  have hC := i.rg.place h hh b hb
  obtain ⟨g1, r1, k1, d1⟩ := i.marked hC m0 m1
  obtain ⟨g2, k2, q⟩ := rg_mvL p g1 i.short hh hb
  have hw := Pl.word (Mem.pl p (.inr hC)) i.short
  have hq : 0 ≤ gv (rem (sv H.ws b m) b) (hd 12 + 1) ∧ gv (rem (sv H.ws b m) b) (hd 12 + 1) < 18446744073709551616 := (r1.rem hw.1 hw.2) _
  refine ⟨g2, ⟨by rw [g2.len], (r1.rem hw.1 hw.2).ins hq.1 hq.2 hw.1 hw.2, fun x hx => ?_, fun j hj => ?_⟩, q⟩
  · rw [k2 x fun u hu => Mem.mark p hx hu, k1 x hx]
  · rw [k2 j fun u hu => (hj u hu).2, d1 j hj]
theorem Moved.dat {ws ws' : List Int} {m : Int} (h : Moved G ws ws' b m) (hm : m % 8192 = gv ws b % 8192) : Dat G ws ws' :=
  ⟨h.len, h.data, fun x hx => by
    rw [h.marks x hx]
    split
    · next e => rw [e, hm]
    · rfl⟩
theorem mwith_shp (m t l : Int) : mwith m t l % 8192 = m % 8192 := by unfold mwith; omega
end
end Go.Proofs.YtagedholocgahaaGreatDoor
