/- A cell goes from ring to ring: what is left of the heap. Plain mathematics. -/
import Derived.Test.YtclcnepkgjcmcaaDoorQ5
namespace Go.Proofs.YtclcnepkgjcmcaaDoor

/-- what a move asks of the words -/
structure MoveOk (ws : List Int) (b at_ : Int) : Prop where
  short : ws.length ≤ 1048576
  pb : Pl ws.length b
  p1 : Pl ws.length (gv ws (b + 1))
  p2 : Pl ws.length (gv ws (b + 2))
  pa : Pl ws.length at_
  px : Pl ws.length (gv (rem ws b) (at_ + 2))
/-- what going to the end of the tasks asks of the words -/
structure WaitOk (ws : List Int) (b : Int) : Prop where
  short : ws.length ≤ 1048576
  pb : Pl ws.length b
  p1 : Pl ws.length (gv ws (b + 1))
  p2 : Pl ws.length (gv ws (b + 2))
  ph : Pl ws.length (hd 12)
  pl : Pl ws.length (gv (rem ws b) (hd 12 + 1))
  px : Pl ws.length (gv (rem ws b) (gv (rem ws b) (hd 12 + 1) + 2))

/-- out of the ring h, to the beginning, or the end, of the ring k -/
def outR (R : Nat → List Int) (h : Nat) (b : Int) : Nat → List Int := updR R h ((R h).filter (fun x => x != b))
def mvR (R : Nat → List Int) (h k : Nat) (b : Int) : Nat → List Int := updR (outR R h b) k (b :: outR R h b k)
def mvL (R : Nat → List Int) (h k : Nat) (b : Int) : Nat → List Int := updR (outR R h b) k (outR R h b k ++ [b])
theorem mvR_far {R : Nat → List Int} {h k j : Nat} (b : Int) (h1 : j ≠ h) (h2 : j ≠ k) : mvR R h k b j = R j := by rw [mvR, updR, if_neg h2, outR, updR, if_neg h1]
theorem mvR_from {R : Nat → List Int} {h k : Nat} (b : Int) (h1 : h ≠ k) : mvR R h k b h = (R h).filter (fun x => x != b) := by rw [mvR, updR, if_neg h1, outR, updR, if_pos rfl]
theorem mvR_to {R : Nat → List Int} {h k : Nat} (b : Int) (h1 : h ≠ k) : mvR R h k b k = b :: R k := by rw [mvR, updR, if_pos rfl, outR, updR, if_neg (fun e => h1 e.symm)]
theorem mvL_far {R : Nat → List Int} {h k j : Nat} (b : Int) (h1 : j ≠ h) (h2 : j ≠ k) : mvL R h k b j = R j := by rw [mvL, updR, if_neg h2, outR, updR, if_neg h1]
theorem mvL_same {R : Nat → List Int} {h : Nat} (b : Int) : mvL R h h b h = (R h).filter (fun x => x != b) ++ [b] := by rw [mvL, updR, if_pos rfl, outR, updR, if_pos rfl]
/-- the members of the ring k go behind those of the ring h -/
def joR (R : Nat → List Int) (h k : Nat) : Nat → List Int := updR (updR R h (R h ++ R k)) k []

section
theorem sumTo_congr {f g : Nat → Nat} : ∀ {n : Nat}, (∀ j, j < n → f j = g j) → sumTo f n = sumTo g n
  | 0, _ => rfl
  | n + 1, h => by rw [sumTo, sumTo, sumTo_congr (fun j hj => h j (by omega)), h n (by omega)]
theorem sumTo_upd {k : Nat} (F : List Int → Nat) (R : Nat → List Int) (l : List Int) : ∀ {n : Nat}, k < n → sumTo (fun j => F (updR R k l j)) n + F (R k) = sumTo (fun j => F (R j)) n + F l
  | 0, h => absurd h (by omega)
  | n + 1, h => by
    by_cases e : k = n
    · subst e
      have : sumTo (fun j => F (updR R k l j)) k = sumTo (fun j => F (R j)) k := sumTo_congr fun j hj => by rw [updR, if_neg (by omega)]
      simp only [sumTo, this]
      rw [updR, if_pos rfl]
      omega
    · have := sumTo_upd (k := k) F R l (n := n) (by omega)
      simp only [sumTo]
      rw [show updR R k l n = R n by rw [updR, if_neg (fun e' => e e'.symm)]]
      omega
theorem fl_cons (G : Geo) (c : Nat) (b : Int) (l : List Int) : G.fl c (b :: l) = G.fl c l + (if G.cls b = c then 1 else 0) := by
  unfold Geo.fl
  rw [List.filter_cons]
  by_cases e : G.cls b = c <;> simp [e]
theorem fl_append (G : Geo) (c : Nat) (l m : List Int) : G.fl c (l ++ m) = G.fl c l + G.fl c m := by
  unfold Geo.fl
  rw [List.filter_append, List.length_append]
theorem fl_nil (G : Geo) (c : Nat) : G.fl c [] = 0 := rfl
theorem fl_out (G : Geo) (c : Nat) {b : Int} {l : List Int} (hn : l.Nodup) (hb : b ∈ l) : G.fl c (l.filter (fun x => x != b)) + (if G.cls b = c then 1 else 0) = G.fl c l := by
  obtain ⟨l1, l2, rfl⟩ := List.append_of_mem hb
  obtain ⟨n1, n2, n3⟩ := List.nodup_append.1 hn
  rw [filter_split (fun hx => n3 b hx b (by simp) rfl) (List.nodup_cons.1 n2).1, fl_append, fl_append, fl_cons]
  omega
theorem fl_all (G : Geo) {c : Nat} {l : List Int} (h : ∀ b ∈ l, G.cls b = c) : G.fl c l = l.length := by
  unfold Geo.fl
  rw [List.filter_eq_self.2 fun b hb => by simp [h b hb]]
theorem fl_none (G : Geo) {c d : Nat} {l : List Int} (h : ∀ b ∈ l, G.cls b = d) (hne : d ≠ c) : G.fl c l = 0 := by
  unfold Geo.fl
  rw [List.filter_eq_nil_iff.2 fun b hb => by simp [h b hb, hne]]
  rfl
theorem tot_out {R : Nat → List Int} (G : Geo) (c : Nat) {b : Int} {h : Nat} (hh : h < 13) (hn : (R h).Nodup) (hb : b ∈ R h) :
    sumTo (fun j => G.fl c (outR R h b j)) 13 + (if G.cls b = c then 1 else 0) = sumTo (fun j => G.fl c (R j)) 13 := by
  have := sumTo_upd (G.fl c) R ((R h).filter (fun x => x != b)) hh
  have := fl_out G c hn hb
  unfold outR
  omega
theorem tot_mvR {R : Nat → List Int} (G : Geo) (c : Nat) {b : Int} {h k : Nat} (hh : h < 13) (hk : k < 13) (hn : (R h).Nodup) (hb : b ∈ R h) :
    sumTo (fun j => G.fl c (mvR R h k b j)) 13 = sumTo (fun j => G.fl c (R j)) 13 := by
  have := tot_out G c hh hn hb
  have := sumTo_upd (G.fl c) (outR R h b) (b :: outR R h b k) hk
  rw [fl_cons] at this
  unfold mvR
  omega
theorem tot_mvL {R : Nat → List Int} (G : Geo) (c : Nat) {b : Int} {h k : Nat} (hh : h < 13) (hk : k < 13) (hn : (R h).Nodup) (hb : b ∈ R h) :
    sumTo (fun j => G.fl c (mvL R h k b j)) 13 = sumTo (fun j => G.fl c (R j)) 13 := by
  have := tot_out G c hh hn hb
  have := sumTo_upd (G.fl c) (outR R h b) (outR R h b k ++ [b]) hk
  rw [fl_append, fl_cons, fl_nil] at this
  unfold mvL
  omega
theorem tot_joR {R : Nat → List Int} (G : Geo) (c : Nat) {h k : Nat} (hh : h < 13) (hk : k < 13) (hne : h ≠ k) :
    sumTo (fun j => G.fl c (joR R h k j)) 13 = sumTo (fun j => G.fl c (R j)) 13 := by
  have h1 := sumTo_upd (G.fl c) R (R h ++ R k) hh
  have h2 := sumTo_upd (G.fl c) (updR R h (R h ++ R k)) [] hk
  rw [fl_append] at h1
  rw [fl_nil, show updR R h (R h ++ R k) k = R k by rw [updR, if_neg (fun e => hne e.symm)]] at h2
  unfold joR
  omega
end

section
variable {n : Nat} {C : Int → Prop} {xs ys : List Int} {R : Nat → List Int} {h j : Nat} {b x : Int}
theorem Rg.links (g : Rg n C xs R) (hl : ys.length = n) (e : ∀ u, Mem C u → gv ys (u + 1) = gv xs (u + 1) ∧ gv ys (u + 2) = gv xs (u + 2)) : Rg n C ys R :=
  ⟨hl, fun _ hk => g.keep_ring hk fun u hu => ⟨(e u (g.mem hk hu)).2, (e u (g.mem hk hu)).1⟩, g.place, g.nodup, g.apart⟩

theorem mem_outR (g : Rg n C xs R) (hh : h < 13) (hb : b ∈ R h) (hj : j < 13) : x ∈ outR R h b j ↔ x ≠ b ∧ x ∈ R j := by
  by_cases e : j = h
  · subst e
    rw [outR, updR, if_pos rfl, List.mem_filter]
    simp [and_comm]
  · rw [outR, updR, if_neg e]
    exact ⟨fun hx => ⟨fun ex => e (g.apart j h hj hh x hx (ex ▸ hb)), hx⟩, fun hx => hx.2⟩
theorem mem_mvR {k : Nat} (g : Rg n C xs R) (hh : h < 13) (hb : b ∈ R h) (hk : k < 13) (hj : j < 13) : x ∈ mvR R h k b j ↔ (x = b ∧ j = k) ∨ (x ≠ b ∧ x ∈ R j) := by
  by_cases e : j = k
  · subst e
    rw [mvR, updR, if_pos rfl, List.mem_cons, mem_outR g hh hb hj]
    by_cases ex : x = b <;> simp [ex]
  · rw [mvR, updR, if_neg e, mem_outR g hh hb hj]
    by_cases ex : x = b <;> simp [ex, e]
theorem mem_mvL {k : Nat} (g : Rg n C xs R) (hh : h < 13) (hb : b ∈ R h) (hk : k < 13) (hj : j < 13) : x ∈ mvL R h k b j ↔ (x = b ∧ j = k) ∨ (x ≠ b ∧ x ∈ R j) := by
  by_cases e : j = k
  · subst e
    rw [mvL, updR, if_pos rfl, List.mem_append, mem_outR g hh hb hj]
    by_cases ex : x = b <;> simp [ex]
  · rw [mvL, updR, if_neg e, mem_outR g hh hb hj]
    by_cases ex : x = b <;> simp [ex, e]
theorem length_filter_ne {l : List Int} (hn : l.Nodup) (hb : b ∈ l) : (l.filter (fun x => x != b)).length + 1 = l.length := by
  obtain ⟨l1, l2, rfl⟩ := List.append_of_mem hb
  obtain ⟨n1, n2, n3⟩ := List.nodup_append.1 hn
  rw [filter_split (fun hx => n3 b hx b (by simp) rfl) (List.nodup_cons.1 n2).1]
  simp
  omega

theorem rg_out (p : Plc n C) (g : Rg n C xs R) (hh : h < 13) (hb : b ∈ R h) : Rg n C (rem xs b) (outR R h b) ∧ Keep C xs (rem xs b) ∧ Pl n b ∧ Pl n (gv xs (b + 1)) ∧ Pl n (gv xs (b + 2)) := rg_rem p g hh hb
theorem rg_mv {k : Nat} (p : Plc n C) (g : Rg n C xs R) (hs : n ≤ 1048576) (hh : h < 13) (hb : b ∈ R h) (hk : k < 13) :
    Rg n C (ins (rem xs b) (hd k) b) (mvR R h k b) ∧ Keep C xs (ins (rem xs b) (hd k) b) ∧ MoveOk xs b (hd k) := by
  obtain ⟨g1, k1, q1, q2, q3⟩ := rg_out p g hh hb
  obtain ⟨g2, k2, q4, q5, q6⟩ := rg_first p g1 hk (g.place h hh b hb) (fun i hi hm => ((mem_outR g hh hb hi).1 hm).1 rfl)
  have e := g.len
  exact ⟨g2, k1.trans k2, ⟨by omega, by rw [e]; exact q1, by rw [e]; exact q2, by rw [e]; exact q3, by rw [e]; exact q4, by rw [e]; exact q6⟩⟩
theorem rg_mvL (p : Plc n C) (g : Rg n C xs R) (hs : n ≤ 1048576) (hh : h < 13) (hb : b ∈ R h) :
    Rg n C (ins (rem xs b) (gv (rem xs b) (hd 12 + 1)) b) (mvL R h 12 b) ∧ Keep C xs (ins (rem xs b) (gv (rem xs b) (hd 12 + 1)) b) ∧ WaitOk xs b := by
  obtain ⟨g1, k1, q1, q2, q3⟩ := rg_out p g hh hb
  obtain ⟨g2, k2, q4, q5, q6⟩ := rg_last p g1 (h := 12) (by omega) (g.place h hh b hb) (fun i hi hm => ((mem_outR g hh hb hi).1 hm).1 rfl)
  have e := g.len
  have mh : Mem C (hd 12) := .inl ⟨12, by omega, rfl⟩
  exact ⟨g2, k1.trans k2, ⟨by omega, by rw [e]; exact q1, by rw [e]; exact q2, by rw [e]; exact q3, by rw [e]; exact mh.pl p, by rw [e]; exact q4, by rw [e]; exact q6⟩⟩

/-- words that are words -/
def Rng (xs : List Int) : Prop := ∀ j, 0 ≤ gv xs j ∧ gv xs j < 18446744073709551616
theorem Rng.sv (h : Rng xs) (i : Int) {v : Int} (v0 : 0 ≤ v) (v1 : v < 18446744073709551616) : Rng (sv xs i v) := by
  intro j
  cases hi : inside xs.length i
  · rw [Go.Proofs.YtclcnepkgjcmcaaDoor.sv, hi]
    exact h j
  · rw [gv_sv _ _ hi]
    split
    · exact ⟨v0, v1⟩
    · exact h j
theorem Rng.ini (h : Rng xs) {b : Int} (b0 : 0 ≤ b) (b1 : b < 18446744073709551616) : Rng (ini xs b) := (h.sv _ b0 b1).sv _ b0 b1
theorem Rng.ins (h : Rng xs) {a b : Int} (a0 : 0 ≤ a) (a1 : a < 18446744073709551616) (b0 : 0 ≤ b) (b1 : b < 18446744073709551616) : Rng (ins xs a b) :=
  (((h.sv _ a0 a1).sv _ (h _).1 (h _).2).sv _ b0 b1).sv _ b0 b1
theorem Rng.rem (h : Rng xs) {b : Int} (b0 : 0 ≤ b) (b1 : b < 18446744073709551616) : Rng (rem xs b) :=
  ((h.sv _ (h _).1 (h _).2).sv _ (h _).1 (h _).2).ini b0 b1
theorem Rng.joi (h : Rng xs) {a b : Int} (a0 : 0 ≤ a) (a1 : a < 18446744073709551616) (b0 : 0 ≤ b) (b1 : b < 18446744073709551616) : Rng (joi xs a b) := by
  unfold Go.Proofs.YtclcnepkgjcmcaaDoor.joi
  split
  · exact h
  · exact ((((h.sv _ (h _).1 (h _).2).sv _ (h _).1 (h _).2).sv _ a0 a1).sv _ (h _).1 (h _).2).ini b0 b1
end

section
variable {B : Int} {G : Geo} {H : Hp} {R : Nat → List Int} {b : Int} {h k : Nat}
theorem Pl.word {n : Nat} {a : Int} (p : Pl n a) (hn : n ≤ 1048576) : 0 ≤ a ∧ a < 18446744073709551616 := by
  obtain ⟨h0, h1⟩ := p
  omega
theorem hd_word (k : Nat) (hk : k < 13) : 0 ≤ hd k ∧ hd k < 18446744073709551616 := by unfold hd; omega

/-- the words of a heap in which a cell has got another mark -/
theorem Inv.marked (i : Inv B G H R) (hb : G.C b) {m : Int} (m0 : 0 ≤ m) (m1 : m < 18446744073709551616) :
    Rg H.ws.length G.C (sv H.ws b m) R ∧ Rng (sv H.ws b m) ∧ (∀ x, G.C x → gv (sv H.ws b m) x = if x = b then m else gv H.ws x) ∧ (∀ j, G.data j → gv (sv H.ws b m) j = gv H.ws j) := by
  have p := i.plc
  have G1 := fun j => gv_sv m j (i.into hb)
  refine ⟨i.rg.links (sv_length _ _ _) fun u hu => ?_, (show Rng H.ws from i.wrd).sv _ m0 m1, fun x _ => G1 x, fun j hj => ?_⟩
  · have := Mem.mark p hb hu
    rw [G1, G1, if_neg (by omega), if_neg (by omega)]
    exact ⟨rfl, rfl⟩
  · rw [G1, if_neg (hj b (.inr hb)).1]

/-- the words of a heap in which a cell has got another mark and another ring -/
structure Moved (G : Geo) (ws ws' : List Int) (b m : Int) : Prop where
  len : ws'.length = ws.length
  rng : Rng ws'
  marks : ∀ x, G.C x → gv ws' x = if x = b then m else gv ws x
  data : ∀ j, G.data j → gv ws' j = gv ws j
theorem Inv.mv (i : Inv B G H R) (hh : h < 13) (hb : b ∈ R h) (hk : k < 13) {m : Int} (m0 : 0 ≤ m) (m1 : m < 18446744073709551616) :
    Rg H.ws.length G.C (ins (rem (sv H.ws b m) b) (hd k) b) (mvR R h k b) ∧ Moved G H.ws (ins (rem (sv H.ws b m) b) (hd k) b) b m ∧ MoveOk (sv H.ws b m) b (hd k) := by
  have p := i.plc
  have hC := i.rg.place h hh b hb
  obtain ⟨g1, r1, k1, d1⟩ := i.marked hC m0 m1
  obtain ⟨g2, k2, q⟩ := rg_mv p g1 i.short hh hb hk
  have hw := Pl.word (Mem.pl p (.inr hC)) i.short
  have hw' := hd_word k hk
  refine ⟨g2, ⟨by rw [g2.len], (r1.rem hw.1 hw.2).ins hw'.1 hw'.2 hw.1 hw.2, fun x hx => ?_, fun j hj => ?_⟩, q⟩
  · rw [k2 x fun u hu => Mem.mark p hx hu, k1 x hx]
  · rw [k2 j fun u hu => (hj u hu).2, d1 j hj]
theorem Inv.mvl (i : Inv B G H R) (hh : h < 13) (hb : b ∈ R h) {m : Int} (m0 : 0 ≤ m) (m1 : m < 18446744073709551616) :
    Rg H.ws.length G.C (ins (rem (sv H.ws b m) b) (gv (rem (sv H.ws b m) b) (hd 12 + 1)) b) (mvL R h 12 b) ∧ Moved G H.ws (ins (rem (sv H.ws b m) b) (gv (rem (sv H.ws b m) b) (hd 12 + 1)) b) b m ∧ WaitOk (sv H.ws b m) b := by
  have p := i.plc
  have hC := i.rg.place h hh b hb
  obtain ⟨g1, r1, k1, d1⟩ := i.marked hC m0 m1
  obtain ⟨g2, k2, q⟩ := rg_mvL p g1 i.short hh hb
  have hw := Pl.word (Mem.pl p (.inr hC)) i.short
  have hq : 0 ≤ gv (rem (sv H.ws b m) b) (hd 12 + 1) ∧ gv (rem (sv H.ws b m) b) (hd 12 + 1) < 18446744073709551616 := (r1.rem hw.1 hw.2) _
  refine ⟨g2, ⟨by rw [g2.len], (r1.rem hw.1 hw.2).ins hq.1 hq.2 hw.1 hw.2, fun x hx => ?_, fun j hj => ?_⟩, q⟩
  · rw [k2 x fun u hu => Mem.mark p hx hu, k1 x hx]
  · rw [k2 j fun u hu => (hj u hu).2, d1 j hj]
theorem Moved.dat {ws ws' : List Int} {m : Int} (h : Moved G ws ws' b m) (hm : m % 8192 = gv ws b % 8192) : Dat G ws ws' :=
  ⟨h.len, h.data, fun x hx => by
    rw [h.marks x hx]
    split
    · next e => rw [e, hm]
    · rfl⟩
theorem mwith_shp (m t l : Int) : mwith m t l % 8192 = m % 8192 := by unfold mwith; omega
end
end Go.Proofs.YtclcnepkgjcmcaaDoor

/- The collector's doings keep what holds of the heap. Plain mathematics. -/
namespace Go.Proofs.YtclcnepkgjcmcaaDoor

section
variable {B : Int} {G : Geo} {H : Hp} {R : Nat → List Int} {b v : Int}

/-- the tasks' ring is one list -/
theorem Inv.mem12 (i : Inv B G H R) {x : Int} (hx : x ∈ R 12) : mlast (gv H.ws x) = H.next ∧ (mtask (gv H.ws x) = 1 ∨ mtask (gv H.ws x) = 2) := by
  obtain ⟨g, w, e, hg, hw, -⟩ := i.tasks
  rw [e] at hx
  rcases List.mem_append.1 hx with hx | hx
  · exact ⟨(hg x hx).2, .inl (hg x hx).1⟩
  · exact ⟨(hw x hx).2.1, .inr (hw x hx).1⟩
theorem Inv.white_at (i : Inv B G H R) (hC : G.C b) (hw : H.isWhite (gv H.ws b) = true) : H.mrk = true ∧ b ∈ R (4 + G.cls b) := by
  have hm : H.mrk = true ∧ mlast (gv H.ws b) = H.cyc + 1 := by simpa [Hp.isWhite] using hw
  obtain ⟨hm, hl⟩ := hm
  have hnext : H.next = H.cyc + 2 := by rw [Hp.next, if_pos hm]
  obtain ⟨k, hk, hb⟩ := i.cover b hC
  refine ⟨hm, ?_⟩
  by_cases k4 : k < 4
  · have := i.fre k b k4 hb
    omega
  · by_cases k8 : k < 8
    · have := i.cls k b (by omega) hb
      rw [show 4 + G.cls b = k by omega]
      exact hb
    · by_cases k12 : k < 12
      · have := (i.black k b (by omega) k12 hb).1
        omega
      · obtain rfl : k = 12 := by omega
        have := (i.mem12 hb).1
        omega
theorem Inv.not_white (i : Inv B G H R) {k : Nat} (hk : k < 13) (hb : b ∈ R k) (hn : k < 4 ∨ 8 ≤ k) : H.isWhite (gv H.ws b) = false := by
  cases hw : H.isWhite (gv H.ws b)
  · rfl
  · exfalso
    have hC := i.rg.place k hk b hb
    obtain ⟨-, h⟩ := i.white_at hC hw
    have := G.cls_lt b
    have := i.rg.apart k (4 + G.cls b) hk (by omega) b hb h
    omega
theorem Inv.white_of (i : Inv B G H R) {k : Nat} (h4 : 4 ≤ k) (h8 : k < 8) (hb : b ∈ R k) : H.isWhite (gv H.ws b) = true := by
  obtain ⟨hm, hl⟩ := i.white k b h4 h8 hb
  simp [Hp.isWhite, hm, hl]

/-- the condition of shade -/
def Hp.shaded (G : Geo) (H : Hp) (v : Int) : Bool := (G.plc v).2 && H.mrk && H.isWhite (gv H.ws (G.plc v).1)
def Hp.shadeR (G : Geo) (H : Hp) (R : Nat → List Int) (v : Int) : Nat → List Int :=
  if H.shaded G v then mvR R (4 + G.cls (G.plc v).1) 12 (G.plc v).1 else R

theorem inv_shade (i : Inv B G H R) (h0 : 0 ≤ v) (h1 : v < 18446744073709551616) :
    Inv B G (H.shade G v) (H.shadeR G R v) ∧ Dat G H.ws (H.shade G v).ws ∧ (H.shaded G v = true → MoveOk (sv H.ws (G.plc v).1 (mwith (gv H.ws (G.plc v).1) 1 H.next)) (G.plc v).1 (hd 12)) := by
  cases hs : H.shaded G v
  · have e : H.shade G v = H := by
      unfold Hp.shaded at hs
      rw [Hp.shade, hs]
      rfl
    rw [e, Hp.shadeR, hs]
    exact ⟨i, Dat.refl _ _, fun h => by cases h⟩
  · have hs' := hs
    unfold Hp.shaded at hs
    obtain ⟨⟨hp, hm⟩, hw⟩ : ((G.plc v).2 = true ∧ H.mrk = true) ∧ H.isWhite (gv H.ws (G.plc v).1) = true := by simpa using hs
    obtain ⟨hC, -⟩ := plc_cell i.ok h0 h1 hp
    have e : H.shade G v = (((H.whiter (cln (msize (gv H.ws (G.plc v).1)))).setMark (G.plc v).1 (gv H.ws (G.plc v).1) 1).move (G.plc v).1 (hd 12)) := by
      rw [Hp.shade, hs]
      rfl
    rw [e, Hp.shadeR, hs', if_pos rfl]
    generalize (G.plc v).1 = b at *
    clear e hs hs' hp
    obtain ⟨-, hb⟩ := i.white_at hC hw
    have hc := G.cls_lt b
    have ht := i.time
    obtain ⟨m0, m1⟩ := mwith_bd (gv H.ws b) 1 H.next (by omega) (by omega) ht.1 (by omega)
    obtain ⟨g', mv, q⟩ := i.mv (h := 4 + G.cls b) (by omega) hb (k := 12) (by omega) m0 m1
    have hmem := fun j (hj : j < 13) x => mem_mvR i.rg (h := 4 + G.cls b) (by omega) hb (k := 12) (by omega) hj (x := x)
    have hcls := (i.shp (4 + G.cls b) b (by omega) (by omega) hb).2.2.1
    have hne : ∀ j, j < 12 → j ≠ 4 + G.cls b → b ∉ R j := fun j hj hjne hbj => hjne (i.rg.apart j _ (by omega) (by omega) b hbj hb)
    have hn12 : b ∉ R 12 := fun hbj => by have := i.rg.apart 12 _ (by omega) (by omega) b hbj hb; omega
    have hws : (((H.whiter (cln (msize (gv H.ws b)))).setMark b (gv H.ws b) 1).move b (hd 12)).ws = ins (rem (sv H.ws b (mwith (gv H.ws b) 1 H.next)) b) (hd 12) b := rfl
    have hM : ∀ x, G.C x → gv (((H.whiter (cln (msize (gv H.ws b)))).setMark b (gv H.ws b) 1).move b (hd 12)).ws x = if x = b then mwith (gv H.ws b) 1 H.next else gv H.ws x := mv.marks
    have oth : ∀ {k x}, k < 13 → x ∈ R k → x ≠ b → gv (((H.whiter (cln (msize (gv H.ws b)))).setMark b (gv H.ws b) 1).move b (hd 12)).ws x = gv H.ws x := fun hk hx hxb => by
      rw [hM _ (i.rg.place _ hk _ hx), if_neg hxb]
    have own : gv (((H.whiter (cln (msize (gv H.ws b)))).setMark b (gv H.ws b) 1).move b (hd 12)).ws b = mwith (gv H.ws b) 1 H.next := by rw [hM _ hC, if_pos rfl]
    have hlen : (((H.whiter (cln (msize (gv H.ws b)))).setMark b (gv H.ws b) 1).move b (hd 12)).ws.length = H.ws.length := mv.len
    have hdat : Dat G H.ws (((H.whiter (cln (msize (gv H.ws b)))).setMark b (gv H.ws b) 1).move b (hd 12)).ws := mv.dat (mwith_shp _ _ _)
    generalize hH : (((H.whiter (cln (msize (gv H.ws b)))).setMark b (gv H.ws b) 1).move b (hd 12)) = H' at *
    have hcyc : H'.cyc = H.cyc := by rw [← hH]; rfl
    have hmrk : H'.mrk = H.mrk := by rw [← hH]; rfl
    have hnext : H'.next = H.next := by rw [← hH]; rfl
    have hwai : H'.wai = H.wai := by rw [← hH]; rfl
    have hmis : H'.mis = 0 := by rw [← hH]; rfl
    have hfre : H'.fre = H.fre := by rw [← hH]; rfl
    have hwhi : H'.whi = H.whi.put (G.cls b) (H.whi.at_ (G.cls b) - 1) := by rw [← hH, ← hcls]; rfl
    obtain ⟨b1, b2, b3, b4, b5⟩ := i.bnd
    refine ⟨⟨i.ok, by rw [hlen]; exact i.len, by rw [hlen, hws]; exact g', by rw [hws]; exact mv.rng, ?_, ?_, by rw [hcyc, hmis]; omega, ?_, ?_, ?_, ?_, ?_, ?_, ?_, ?_⟩, hdat, fun _ => q⟩
    · intro x hx
      obtain ⟨k, hk, hxk⟩ := i.cover x hx
      by_cases e : x = b
      · exact ⟨12, by omega, (hmem 12 (by omega) x).2 (.inl ⟨e, rfl⟩)⟩
      · exact ⟨k, hk, (hmem k hk x).2 (.inr ⟨e, hxk⟩)⟩
    · intro k x hk hx
      rcases (hmem k (by omega) x).1 hx with ⟨-, e⟩ | ⟨-, hx⟩
      · omega
      · exact i.cls k x hk hx
    · intro k x k4 hk hx
      have hr : 1 ≤ mform (gv H.ws x) ∧ mform (gv H.ws x) ≤ 3 ∧ cln (msize (gv H.ws x)) = G.cls x ∧ (mform (gv H.ws x) = 3 → msize (gv H.ws x) = 2) := by
        rcases (hmem k hk x).1 hx with ⟨rfl, -⟩ | ⟨-, hx⟩
        · exact i.shp _ _ (by omega) (by omega) hb
        · exact i.shp k x k4 hk hx
      obtain ⟨f1, -, f3⟩ := form_shp (hdat.shp x (g'.place k hk x hx))
      rw [f1, f3]
      exact hr
    · intro k x hk hx
      rcases (hmem k (by omega) x).1 hx with ⟨-, e⟩ | ⟨e, hx⟩
      · omega
      · rw [oth (by omega) hx e, hcyc]
        exact i.fre k x hk hx
    · intro c hc'
      rw [hfre, mvR_far _ (by omega) (by omega)]
      exact i.frec c hc'
    · intro k x k4 k8 hx
      rcases (hmem k (by omega) x).1 hx with ⟨-, e⟩ | ⟨e, hx⟩
      · omega
      · rw [oth (by omega) hx e, hcyc, hmrk]
        exact i.white k x k4 k8 hx
    · intro _ c hc'
      rw [hwhi, Q4.at_put _ hc hc']
      have hw := i.whic hm c hc'
      by_cases e : c = G.cls b
      · subst e
        rw [if_pos rfl, mvR_from _ (by omega)]
        have := length_filter_ne (i.rg.nodup (4 + G.cls b) (by omega)) hb
        omega
      · rw [if_neg e, mvR_far _ (by omega) (by omega)]
        exact hw
    · intro k x k8 k12 hx
      rcases (hmem k (by omega) x).1 hx with ⟨-, e⟩ | ⟨e, hx⟩
      · omega
      · rw [oth (by omega) hx e, hnext]
        exact i.black k x k8 k12 hx
    · obtain ⟨g, w, e, hg, hw', hl, hi⟩ := i.tasks
      have q1 : ∀ x, x ∈ g → x ∈ R 12 := fun x hx => by rw [e]; simp [hx]
      have q2 : ∀ x, x ∈ w → x ∈ R 12 := fun x hx => by rw [e]; simp [hx]
      refine ⟨b :: g, w, ?_, ?_, ?_, by rw [hwai]; exact hl, fun h => by rw [hmrk, hm] at h; cases h⟩
      · rw [mvR_to _ (by omega), e]
        rfl
      · intro x hx
        rcases List.mem_cons.1 hx with rfl | hx
        · rw [own, hnext]
          exact ⟨mtask_with _ _ _ (by omega) (by omega), mlast_with _ _ _ (by omega) (by omega)⟩
        · rw [oth (k := 12) (by omega) (q1 x hx) (ne_mem (q1 x hx) hn12), hnext]
          exact hg x hx
      · intro x hx
        rw [oth (k := 12) (by omega) (q2 x hx) (ne_mem (q2 x hx) hn12), hnext]
        exact hw' x hx
    · intro c hc'
      rw [tot_mvR G c (by omega) (by omega) (i.rg.nodup _ (by omega)) hb]
      exact i.tot c hc'
end
end Go.Proofs.YtclcnepkgjcmcaaDoor
