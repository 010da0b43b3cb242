/- The reference of layer 10: Own, a term in new memory. -/
import Derived.Test.YtpiekdcbjkgipaaGreatQ37
import Derived.Test.YtpiekdcbjkgipaaGreatQ26
import Derived.Test.YtpiekdcbjkgipaaGreatQ24
namespace Go.Proofs.YtpiekdcbjkgipaaGreat
open Go.ChangeShapes Go.WideShapes Go.ChangeAt Go.RowKit Go.Deep
open TM (Tl Tm)

/-- a term of one's own, all of it made since a world: its rows in blocks of S, its data in blocks of D -/
def NewT (B : Nat) (w' : World) (t : Tm) (vp vi vk : Value) : Prop :=
  ∃ D S : Nat → Prop, TmOwn w' D S t vp vi vk ∧ (∀ g, S g → B ≤ g ∧ g < w'.heap.size) ∧ (∀ g, D g → B ≤ g ∧ g < w'.heap.size) ∧ (∀ g, S g → D g → False)
/-- some terms of one's own, one behind the other, in a row that is appended to -/
def NewR (B : Nat) (w' : World) (t : Tl) (v : Value) : Prop :=
  ∃ (D S : Nat → Prop) (cs : List Value), w'.ownsRow 0 28 9 v t.len cs ∧ TAt w' D t S cs ∧ (∀ g, v.ownBlock = some g → (B ≤ g ∧ g < w'.heap.size) ∧ ¬ S g ∧ ¬ D g) ∧ (∀ g, S g → B ≤ g ∧ g < w'.heap.size) ∧ (∀ g, D g → B ≤ g ∧ g < w'.heap.size) ∧ (∀ g, S g → D g → False)
theorem NewT.tmin {B : Nat} {w : World} {t : Tm} {vp vi vk : Value} (h : NewT B w t vp vi vk) : TmIn w t vp vi vk := by
  obtain ⟨D, S, h, _⟩ := h
  exact h.tmin
theorem NewT.turns {B : Nat} {w w' : World} {X : Nat → Prop} {t : Tm} {vp vi vk : Value} (h : NewT B w t vp vi vk) (k : Turns X w w') (hX : ∀ g, X g → B ≤ g → w.heap.size ≤ g) : NewT B w' t vp vi vk := by
  obtain ⟨D, S, h1, h2, h3, h4⟩ := h
  exact ⟨D, S, h1.turns k (fun g hg hs hx => by have := hX g hx (h2 g hs).1; omega) (fun g hg hs hx => by have := hX g hx (h3 g hs).1; omega), fun g hg => ⟨(h2 g hg).1, Nat.lt_of_lt_of_le (h2 g hg).2 k.size⟩, fun g hg => ⟨(h3 g hg).1, Nat.lt_of_lt_of_le (h3 g hg).2 k.size⟩, h4⟩
theorem NewR.nil (B : Nat) (w : World) : NewR B w .nil (.slice none 0 0) :=
  ⟨fun _ => False, fun _ => False, [], own_none w 0 _ 9, rfl, fun g h => by simp [Value.ownBlock] at h, fun _ h => h.elim, fun _ h => h.elim, fun _ h _ => h⟩
theorem NewR.turns {B : Nat} {w w' : World} {X : Nat → Prop} {t : Tl} {v : Value} (h : NewR B w t v) (k : Turns X w w') (hX : ∀ g, X g → B ≤ g → w.heap.size ≤ g) : NewR B w' t v := by
  obtain ⟨D, S, cs, h0, h1, hv, h2, h3, h4⟩ := h
  exact ⟨D, S, cs, own_turns h0 k (fun g hg hx => by have := hX g hx (hv g hg).1.1; have := (hv g hg).1.2; omega), TAt.turns k (fun g hg hs hx => by have := hX g hx (h2 g hs).1; omega) (fun g hg hs hx => by have := hX g hx (h3 g hs).1; omega) h1,
    fun g hg => ⟨⟨(hv g hg).1.1, Nat.lt_of_lt_of_le (hv g hg).1.2 k.size⟩, (hv g hg).2⟩, fun g hg => ⟨(h2 g hg).1, Nat.lt_of_lt_of_le (h2 g hg).2 k.size⟩, fun g hg => ⟨(h3 g hg).1, Nat.lt_of_lt_of_le (h3 g hg).2 k.size⟩, h4⟩
theorem NewR.below {B : Nat} {w w' : World} {t : Tl} {v : Value} (h : NewR B w t v) (k : Below w.heap.size w w') : NewR B w' t v := h.turns (Turns.of_below k (fun _ => False)) (fun _ h => h.elim)
theorem NewR.read {B : Nat} {w : World} {t : Tl} {v : Value} (h : NewR B w t v) : ∃ A c, v = .slice A t.len c := by
  obtain ⟨D, S, cs, h0, _⟩ := h
  obtain ⟨A, c, e, _⟩ := own_read h0
  exact ⟨A, c, e⟩
theorem NewR.lt {B : Nat} {w : World} {t : Tl} {v : Value} (h : NewR B w t v) : ∀ g, v.ownBlock = some g → B ≤ g ∧ g < w.heap.size := by
  obtain ⟨D, S, cs, h0, _, hv, _⟩ := h
  exact fun g hg => (hv g hg).1
/-- one more term behind them -/
theorem wpList_append_new {ops : Array Oper} {rest : List Oper} {o : Oper} {a : Act} {Q : Exit → Act → World → Prop} {B : Nat} {wr w3 : World} {out : Tl} {x : Tm} {v8 u1 u2 u3 : Value} (hgd : o.guard = none) (s u : Operand)
    (ho : o.op = .call { callee := .builtin .append, args := #[s, u], argTypes := #[26, 26] }) (hs : a.eval s = v8) (hu : a.eval u = .slice (some ⟨w3.heap.size, 0, none⟩) 1 1)
    (hR : NewR B wr out v8) (hb : Below wr.heap.size wr w3) (hB : B ≤ wr.heap.size) (hx : NewT wr.heap.size w3 x u1 u2 u3) (hn : out.len + 1 ≤ 1000000)
    (hq : ∀ v9 w9, NewR B w9 (out.snoc x) v9 → Turns (fun g => v8.ownBlock = some g) (w3.alloc (.cells #[.int .i64 x.k, .int .i64 x.n, .string ⟨x.s.toArray⟩, u1, .int .i64 x.d.k, .int .i64 x.d.n, .string ⟨x.d.s.toArray⟩, u2, u3] 28)) w9 → wpList Tryz.prog ops Q rest (a.put o.dst v9) w9) :
    wpList Tryz.prog ops Q (o :: rest) a (w3.alloc (.cells #[.int .i64 x.k, .int .i64 x.n, .string ⟨x.s.toArray⟩, u1, .int .i64 x.d.k, .int .i64 x.d.n, .string ⟨x.d.s.toArray⟩, u2, u3] 28)) := by
  obtain ⟨D, S, cs, h0, h1, hv, h2, h3, h4⟩ := hR
  obtain ⟨D5, S5, hT5, hS5, hD5, hSD5⟩ := hx
  have T0 : Turns (fun _ => False) wr (w3.alloc (.cells #[.int .i64 x.k, .int .i64 x.n, .string ⟨x.s.toArray⟩, u1, .int .i64 x.d.k, .int .i64 x.d.n, .string ⟨x.d.s.toArray⟩, u2, u3] 28)) := (Turns.of_below hb _).alloc _
  have T3 : Turns (fun _ => False) w3 (w3.alloc (.cells #[.int .i64 x.k, .int .i64 x.n, .string ⟨x.s.toArray⟩, u1, .int .i64 x.d.k, .int .i64 x.d.n, .string ⟨x.d.s.toArray⟩, u2, u3] 28)) := (Turns.refl _ _).alloc _
  have hsz : (w3.alloc (.cells #[.int .i64 x.k, .int .i64 x.n, .string ⟨x.s.toArray⟩, u1, .int .i64 x.d.k, .int .i64 x.d.n, .string ⟨x.d.s.toArray⟩, u2, u3] 28)).heap.size = w3.heap.size + 1 := by simp
  have hws := hb.size
  refine wpList_append_row (.agg #[.int .i64 0, .int .i64 0, .string ⟨#[]⟩, .slice none 0 0, .int .i64 0, .int .i64 0, .string ⟨#[]⟩, .slice none 0 0, .slice none 0 0]) 136 Tryz.infoTerm rfl (by decide) hgd s u 26 ho Tryz.underlying26 hs hu (own_turns h0 T0 (fun _ _ h => h)) (own_one (e := 28) (sz := 9) (B := 0) w3 #[.int .i64 x.k, .int .i64 x.n, .string ⟨x.s.toArray⟩, u1, .int .i64 x.d.k, .int .i64 x.d.n, .string ⟨x.d.s.toArray⟩, u2, u3] rfl (Nat.zero_le _)) (TAt.one hT5.at_) (by omega) (by omega) (by simp) ?_
  intro v9 w9 hown9 hg9 hat9
  have T1 := Turns.appendedS hg9
  have hs9 := T1.size
  rw [hsz] at hs9
  refine hq v9 w9 ⟨fun g => D g ∨ D5 g, fun g => S g ∨ S5 g, cs ++ tcells x u1 u2 u3, ?_, ?_, ?_, ?_, ?_, ?_⟩ T1
  · rw [Tl.len_snoc]
    exact hown9
  · have ha : TAt w9 (fun g => D g ∨ D5 g) out S cs := TAt.dmono (fun g _ h => .inl h) (TAt.turns T1 (fun g hg hs hx => (hv g hx).2.1 hs) (fun g hg hs hx => (hv g hx).2.2 hs) (TAt.turns T0 (fun _ _ _ h => h) (fun _ _ _ h => h) h1))
    have hb' : TAt w9 (fun g => D g ∨ D5 g) (.one x) S5 (tcells x u1 u2 u3) := TAt.dmono (fun g _ h => .inr h) (((hT5.turns T3 (fun _ _ _ h => h) (fun _ _ _ h => h)).turns T1 (fun g hg hs hx => by have := (hv g hx).1.2; have := (hS5 g hs).1; omega) (fun g hg hs hx => by have := (hv g hx).1.2; have := (hD5 g hs).1; omega)).at_)
    exact TAt.app ha hb' (fun g _ h5 h6 => by have := (h2 g h5).2; have := (hS5 g h6).1; omega)
  · intro g hg
    rcases hat9 with e | e
    · rw [e] at hg
      have h5 := hv g hg
      exact ⟨⟨h5.1.1, by omega⟩, fun h => h.elim h5.2.1 (fun h6 => by have := (hS5 g h6).1; omega), fun h => h.elim h5.2.2 (fun h6 => by have := (hD5 g h6).1; omega)⟩
    · have hg2 : g = w3.heap.size + 1 := by
        rw [hg, hsz] at e
        simpa using e
      subst hg2
      have hlt := World.ownsRow.lt hown9 _ hg
      exact ⟨⟨by omega, hlt.2⟩, fun h => h.elim (fun h6 => by have := (h2 _ h6).2; omega) (fun h6 => by have := (hS5 _ h6).2; omega), fun h => h.elim (fun h6 => by have := (h3 _ h6).2; omega) (fun h6 => by have := (hD5 _ h6).2; omega)⟩
  · intro g hg
    rcases hg with hg | hg
    · have := h2 g hg; omega
    · have := hS5 g hg; omega
  · intro g hg
    rcases hg with hg | hg
    · have := h3 g hg; omega
    · have := hD5 g hg; omega
  · intro g h5 h6
    rcases h5 with h5 | h5 <;> rcases h6 with h6 | h6
    · exact h4 g h5 h6
    · have := (h2 g h5).2; have := (hD5 g h6).1; omega
    · have := (hS5 g h5).1; have := (h3 g h6).2; omega
    · exact hSD5 g h5 h6
/-- a term whose Params, data and Kids are one's own -/
theorem NewT.of {B M : Nat} {wr w : World} {t : Tm} {vp vi vk : Value} {X D0 : Nat → Prop} (hp : Own w 0 vp t.ps) (hpb : ∀ g, vp.ownBlock = some g → B ≤ g ∧ g < M) (hBM : B ≤ M) (hMw : M ≤ wr.heap.size) (hk : NewR M wr t.ks vk) (hkt : Turns X wr w) (hX : ∀ g, X g → g < M)
    (hd : InD w D0 vi t.d.is) (hdb : ∀ g, D0 g → wr.heap.size ≤ g) : NewT B w t vp vi vk := by
  obtain ⟨D, S, cs, h0, h1, hv, h2, h3, h4⟩ := hk
  have hsz := hkt.size
  refine ⟨fun g => D g ∨ (D0 g ∧ g < w.heap.size), fun g => S g ∨ vk.ownBlock = some g ∨ vp.ownBlock = some g, ⟨cs, hp, fun g hg => .inr (.inr hg), hd.mono (fun g hg h => .inr ⟨h, hg⟩), own_turns h0 hkt (fun g hg hx => by have := hX g hx; have := (hv g hg).1.1; omega), fun g hg => .inr (.inl hg), ?_⟩, ?_, ?_, ?_⟩
  · refine TAt.mono (S := S) (fun g _ hs => ⟨.inl hs, fun e => (hv g e).2.1 hs, fun e => ?_⟩) (TAt.dmono (fun g _ h => .inl h) (TAt.turns hkt (fun g _ hs hx => by have := hX g hx; have := (h2 g hs).1; omega) (fun g _ hs hx => by have := hX g hx; have := (h3 g hs).1; omega) h1))
    have := (hpb g e).2
    have := (h2 g hs).1
    omega
  · intro g hg
    rcases hg with hg | hg | hg
    · have := h2 g hg; omega
    · have := (hv g hg).1; omega
    · have h5 := (hpb g hg).1
      have := (hp.lt g hg).2
      omega
  · intro g hg
    rcases hg with hg | hg
    · have := h3 g hg; omega
    · have := hdb g hg.1
      exact ⟨by omega, hg.2⟩
  · intro g hs hd
    rcases hd with hd | hd
    · rcases hs with hs | hs | hs
      · exact h4 g hs hd
      · exact (hv g hs).2.2 hd
      · have := (hpb g hs).2; have := (h3 g hd).1; omega
    · have h6 := hdb g hd.1
      rcases hs with hs | hs | hs
      · have := (h2 g hs).2; omega
      · have := (hv g hs).1.2; omega
      · have := (hpb g hs).2; omega
def Ow10 (t : Tm) : Prop := ∀ (w : World) (vp vi vk : Value), TmIn w t vp vi vk → TM.sd1 t = true → TM.sz t.ks ≤ 5000 →
  Calls Tryz.prog 8 #[tmv t vp vi vk] w fun e w' => ∃ vp' vi' vk', e = .returned (tmv t vp' vi' vk') ∧ NewT w.heap.size w' t vp' vi' vk' ∧ Went w w'
set_option maxRecDepth 100000 in
set_option maxHeartbeats 8000000 in
theorem ow_step (k n : Int) (s : List UInt8) (ps : List Int) (d : RM.Dm) (ks : Tl) (hR : ∀ i x, ks.at_ i = some x → Ow10 x) : Ow10 ⟨k, n, s, ps, d, ks⟩ := by
  intro w vp vi vk h hsd hsz
  obtain ⟨P3, p3, rfl⟩ := h.p.read
  obtain ⟨I7, q7, rfl⟩ := h.d.read
  obtain ⟨A1, c1, rfl⟩ := h.k.read
  have hlen := h.k.len
  have hTk := h.k
  have hTp := h.p
  have hTd := h.d
  unfold TM.sd1 at hsd
  simp only [Bool.and_eq_true, decide_eq_true_eq] at hsd
  simp only at hlen hTk hTp hTd hsd hsz ⊢
  have hd5 : SM.sz d.is ≤ 5000 := by
    have := hsd.1.1
    unfold SM.small at this
    simp only [Bool.and_eq_true, decide_eq_true_eq] at this
    omega
  have hO := Lib.hid (fun (w' : World) (hb : Below w.heap.size w w') => own_any d w' _ (hTd.below hb) hd5)
  have hpl := hsd.1.2
  obtain ⟨N, hN⟩ : ∃ N, ks.len = N := ⟨_, rfl⟩
  obtain ⟨L3, hL3⟩ : ∃ x, ps.length = x := ⟨_, rfl⟩
  obtain ⟨L7, hL7⟩ : ∃ x, d.is.len = x := ⟨_, rfl⟩
  have hN5 : N ≤ 5000 := by have := TM.len_sz ks; omega
  unfold tmv
  simp only
  unfold dtv at hO
  rw [hN] at hlen hTk ⊢
  rw [hL3] at hTp hpl
  rw [hL7] at hO
  rw [hL3, hL7]
  have hN' := Lib.hid hN
  have hL3' := Lib.hid hL3
  have hR' := Lib.hid hR
  have hsz' := Lib.hid hsz
  have hsd' := Lib.hid hsd.2
  have hL := (Lies.made w 28 #[.int .i64 k, .int .i64 n, .string ⟨s.toArray⟩, .slice P3 L3 p3, .int .i64 d.k, .int .i64 d.n, .string ⟨d.s.toArray⟩, .slice I7 L7 q7, .slice A1 N c1]).alloc (.cells #[.int .i64 0, .int .i64 0, .string ⟨#[]⟩, .slice none 0 0, .int .i64 0, .int .i64 0, .string ⟨#[]⟩, .slice none 0 0, .slice none 0 0] 28)
  have hz1 : (w.alloc (.cells #[.int .i64 k, .int .i64 n, .string ⟨s.toArray⟩, .slice P3 L3 p3, .int .i64 d.k, .int .i64 d.n, .string ⟨d.s.toArray⟩, .slice I7 L7 q7, .slice A1 N c1] 28)).heap.size = w.heap.size + 1 := by simp
  have hLr := Lies.made (w.alloc (.cells #[.int .i64 k, .int .i64 n, .string ⟨s.toArray⟩, .slice P3 L3 p3, .int .i64 d.k, .int .i64 d.n, .string ⟨d.s.toArray⟩, .slice I7 L7 q7, .slice A1 N c1] 28)) 28 #[.int .i64 0, .int .i64 0, .string ⟨#[]⟩, .slice none 0 0, .int .i64 0, .int .i64 0, .string ⟨#[]⟩, .slice none 0 0, .slice none 0 0]
  rw [hz1] at hLr
  obtain ⟨W2, hW2⟩ : ∃ W2, ((w.alloc (.cells #[.int .i64 k, .int .i64 n, .string ⟨s.toArray⟩, .slice P3 L3 p3, .int .i64 d.k, .int .i64 d.n, .string ⟨d.s.toArray⟩, .slice I7 L7 q7, .slice A1 N c1] 28)).alloc (.cells #[.int .i64 0, .int .i64 0, .string ⟨#[]⟩, .slice none 0 0, .int .i64 0, .int .i64 0, .string ⟨#[]⟩, .slice none 0 0, .slice none 0 0] 28)) = W2 := ⟨_, rfl⟩
  have hba : Below w.heap.size w W2 := by rw [← hW2]; exact ((Below.refl _ w).alloc (Nat.le_refl _) _).alloc (by simp) _
  have hZ2 : W2.heap.size = w.heap.size + 2 := by rw [← hW2]; simp
  rw [hW2] at hL hLr
  have hO2 := Own.zero W2 (B := 0) (Nat.zero_le _)
  rw [hZ2] at hO2
  have hTp2 := hTp.below (hba.alloc hba.size (.cells #[] 3))
  have hbw : Below w.heap.size w (W2.alloc (.cells #[] 3)) := hba.alloc hba.size _
  have hLw := hL.alloc (.cells #[] 3)
  have hLrw := hLr.alloc (.cells #[] 3)
  have x3 : (W2.alloc (.cells #[] 3)).cell? ⟨w.heap.size, 3, none⟩ = some (.slice P3 L3 p3) := hLw.cell 3
  have hZ3 : (W2.alloc (.cells #[] 3)).heap.size = w.heap.size + 3 := by simp [hZ2]
  generalize hW3 : W2.alloc (.cells #[] 3) = W3 at *
  have hZ3' := Lib.hid hZ3
  clear hN hR hL3 hL7 hz1 h hsd hsz hTp hTd hd5 hL hLr hba hZ3
  go_enter Tryz.func8, Tryz.ntmps8
  go_wp2_with (
    at_builtin
    refine wpList_append_pin (B := 0) (v := .slice (some ⟨w.heap.size + 2, 0, none⟩) 0 0) (x := .slice P3 L3 p3) (l := []) (lx := ps) rfl _ _ 22 rfl Tryz.underlying22 rfl rfl hO2 hTp2 (by rw [hL3'.out]; simp; omega) (Nat.zero_le _) ?_
    intro v9 w9 hown9 hg9 hat9
    rw [List.nil_append] at hown9
    have T1 := Turns.appended hg9
    have hTw : Turns (fun _ => False) w w9 := (Turns.of_below hbw (fun _ => False)).then T1 (fun g hg hh => by simp [Value.ownBlock] at hh; omega)
    have hM9 := hLw.turns T1 (fun hh => by simp [Value.ownBlock] at hh)
    have hMr9 := hLrw.turns T1 (fun hh => by simp [Value.ownBlock] at hh)
    have hp9 : ∀ g, v9.ownBlock = some g → w.heap.size + 2 ≤ g ∧ g < w9.heap.size := fun g hh => by
      refine ⟨?_, (hown9.lt g hh).2⟩
      rcases hat9 with e | e
      · rw [e] at hh; simp [Value.ownBlock] at hh; omega
      · rw [e, hZ3'.out] at hh; simp at hh; omega
    obtain ⟨P9, m9, p9, rfl⟩ := slice_of hown9
    have x39 := hM9.cell 3
    have f39 := hM9.free 3
    have hlt9 := hM9.lt
    simp only [List.getElem?_cons_succ, List.getElem?_cons_zero] at x39
    have hM10 := hM9.stored 3 (.slice P9 m9 p9)
    have hMr10 := hMr9.far (p := ⟨w.heap.size, 3, none⟩) (by simp) (.slice P9 m9 p9)
    simp only [List.set_cons_succ, List.set_cons_zero] at hM10
    have hb10 := (hTw.below (Nat.le_refl _) (fun _ h => h.elim)).setCell (p := ⟨w.heap.size, 3, none⟩) (Nat.le_refl _) (.slice P9 m9 p9)
    have hP10 := hown9.turns ((Turns.refl (fun k => k = w.heap.size) w9).setCell (p := ⟨w.heap.size, 3, none⟩) (fun _ => rfl) (.slice P9 m9 p9)) (fun g hg hh => by
      rcases hat9 with e | e
      · rw [e] at hg; simp [Value.ownBlock] at hg; omega
      · rw [e, hZ3'.out] at hg; simp at hg; omega)
    have hp9' := Lib.hid hp9
    have hw9 := hMr9.lt
    clear hg9 hat9 hown9 T1 hTw hM9 hMr9 hp9)
  go_loopw [3, 4] (fun v8 i wr => ∃ (j : Nat), j ≤ N ∧ i = .int .i64 j ∧ NewR w9.heap.size wr (ks.tk j) v8 ∧ Own wr 0 (.slice P9 m9 p9) ps ∧ Lies wr w.heap.size 28 [.int .i64 k, .int .i64 n, .string ⟨s.toArray⟩, .slice P9 m9 p9, .int .i64 d.k, .int .i64 d.n, .string ⟨d.s.toArray⟩, .slice I7 L7 q7, .slice A1 N c1] ∧ Lies wr (w.heap.size + 1) 28 [.int .i64 0, .int .i64 0, .string ⟨#[]⟩, .slice none 0 0, .int .i64 0, .int .i64 0, .string ⟨#[]⟩, .slice none 0 0, .slice none 0 0] ∧ Below w.heap.size w wr ∧ w9.heap.size ≤ wr.heap.size) (fun _ i _ => N - (intOf i).toNat)
  case atStart => exact ⟨0, by omega, rfl, by rw [Tl.tk_zero]; exact NewR.nil _ _, hP10, hM10, hMr10, hb10, by simp⟩
  case round =>
    obtain ⟨j, hj, rfl, hI, hP, hM1, hM2, hb, hw99⟩ := hrel
    clear hM10 hMr10 hb10 hP10 x39 f39 hlt9 hLw hLrw x3 hO2 hTp2 hbw
    have y8 : wr.cell? ⟨w.heap.size, 8, none⟩ = some (.slice A1 N c1) := hM1.cell 8
    obtain ⟨A8, c8, rfl⟩ := hI.read
    have htl : (ks.tk j).len = j := Tl.tk_len ks j (by rw [hN'.out]; exact hj)
    by_cases hlt : j < N
    · obtain ⟨x, hx⟩ := ks.at_some j (by rw [hN'.out]; exact hlt)
      obtain ⟨b, o, P5, p5, I5, q5, K5, r5, rfl, hb0, c10, c11, c12, c13, c14, c15, c16, c17, c18, hT5⟩ := (hTk.below hb).at_ hx
      have hup := TM.sz_in hx
      have hC := Lib.hid (hR'.out j x hx wr _ _ _ hT5 (TM.sdl_in hsd'.out hx) (by have := hsz'.out; omega))
      have hsn := Tl.tk_snoc ks j x hx
      generalize ks.tk j = out at hI hsn htl ⊢
      have hsn' := Lib.hid hsn
      have e8 : Value.slice A8 out.len c8 = .slice A8 j c8 := by rw [htl]
      rw [e8] at hI
      rw [e8]
      have htl' := Lib.hid htl
      have hI' := Lib.hid hI
      have hP' := Lib.hid hP
      have hlt2 := hM2.lt
      have hj' := Lib.hid hN5
      unfold tmv at hC
      clear hx hup hsn htl e8 hT5 hI hP
      go_wp2_with (first
        | (go_at_call 8
           refine hC.out.mono ?_
           rintro e w3 ⟨v1, v2, v3, rfl, hNw, hb3⟩
           obtain ⟨P6, m6, p6, rfl⟩ : ∃ A m c, v1 = .slice A m c := by obtain ⟨A, c, e⟩ := hNw.tmin.p.read; exact ⟨_, _, _, e⟩
           obtain ⟨I6, l6, q6, rfl⟩ : ∃ A m c, v2 = .slice A m c := by obtain ⟨A, c, e⟩ := hNw.tmin.d.read; exact ⟨_, _, _, e⟩
           obtain ⟨K6, n6, r6, rfl⟩ : ∃ A m c, v3 = .slice A m c := by obtain ⟨A, c, e⟩ := hNw.tmin.k.read; exact ⟨_, _, _, e⟩
           have hb3' := Lib.hid hb3
           have hNw' := Lib.hid hNw
           have hM3 := (hM1.below hb3 hM1.lt).alloc (.cells #[.int .i64 x.k, .int .i64 x.n, .string ⟨x.s.toArray⟩, .slice P6 m6 p6, .int .i64 x.d.k, .int .i64 x.d.n, .string ⟨x.d.s.toArray⟩, .slice I6 l6 q6, .slice K6 n6 r6] 28)
           have hM4 := (hM2.below hb3 hM2.lt).alloc (.cells #[.int .i64 x.k, .int .i64 x.n, .string ⟨x.s.toArray⟩, .slice P6 m6 p6, .int .i64 x.d.k, .int .i64 x.d.n, .string ⟨x.d.s.toArray⟩, .slice I6 l6 q6, .slice K6 n6 r6] 28)
           have T0 := Lib.hid ((Turns.of_below hb3 (fun _ => False)).alloc (.cells #[.int .i64 x.k, .int .i64 x.n, .string ⟨x.s.toArray⟩, .slice P6 m6 p6, .int .i64 x.d.k, .int .i64 x.d.n, .string ⟨x.d.s.toArray⟩, .slice I6 l6 q6, .slice K6 n6 r6] 28))
           clear hb3 hNw c10 c11 c12 c13 c14 c15 c16 c17 c18 y8)
        | (at_builtin
           refine wpList_append_new (v8 := .slice A8 j c8) rfl _ _ rfl rfl rfl hI'.out hb3'.out hw99 hNw'.out (by rw [htl'.out]; omega) ?_
           intro v9 w11 hR9 hT9
           have hlo := hI'.out.lt
           have hM5 := hM3.turns hT9 (fun hh => by have := (hlo _ hh).1; omega)
           have hM6 := hM4.turns hT9 (fun hh => by have := (hlo _ hh).1; omega)
           have T01 := (T0.out.mono (Y := fun g => (Value.slice A8 j c8).ownBlock = some g) (fun _ _ h => h.elim)).then hT9 (fun _ _ h => h)
           have hP9 := hP'.out.turns T01 (fun g hg hh => by have := (hlo _ hh).1; have := (hp9'.out g hg).2; omega)
           have hb11 : Below w.heap.size w w11 := hb.trans (T01.below hb.size (fun g hh => by have := (hlo _ hh).1; omega))
           have hw11 : w9.heap.size ≤ w11.heap.size := Nat.le_trans hw99 T01.size
           clear hT9 T01 hlo hM3 hM4))
      go_roundw
      case rel => exact ⟨j + 1, by omega, by go_num, by rw [hsn'.out]; exact hR9, hP9, hM5, hM6, hb11, hw11⟩
      case measure => simp [intOf]; omega
    · obtain rfl : j = N := by omega
      have hall : ks.tk j = ks := by rw [← hN'.out]; exact Tl.tk_all ks
      have e8 : Value.slice A8 (ks.tk j).len c8 = .slice A8 j c8 := by rw [htl]
      rw [e8, hall] at hI
      rw [e8]
      have hM9 := hM1.stored 8 (.slice A8 j c8)
      have hMr9 := hM2.far (p := ⟨w.heap.size, 8, none⟩) (by simp) (.slice A8 j c8)
      simp only [List.set_cons_succ, List.set_cons_zero] at hM9
      have hb9 : Below w.heap.size w (wr.setCell ⟨w.heap.size, 8, none⟩ (.slice A8 j c8)) := hb.setCell (p := ⟨w.heap.size, 8, none⟩) (Nat.le_refl _) _
      have f8 := hM1.free 8
      have q4 := hM9.cell 4
      have q5 := hM9.cell 5
      have q6 := hM9.cell 6
      have q7 := hM9.cell 7
      have hlt1 := hM1.lt
      simp only [List.getElem?_cons_succ, List.getElem?_cons_zero] at q4 q5 q6 q7
      have hI' := Lib.hid hI
      have hP' := Lib.hid hP
      have hC := Lib.hid (hO.out _ hb9)
      have hsk : (wr.setCell ⟨w.heap.size, 8, none⟩ (.slice A8 j c8)).heap.size = wr.heap.size := by simp
      have hsk' := Lib.hid hsk
      clear hall htl e8 hI hP hsk
      go_wp2_with (
        go_at_call 23
        refine hC.out.mono ?_
        rintro e w5 ⟨v5, rfl, hO5, hb5⟩
        obtain ⟨I8, L8, q8, rfl⟩ : ∃ A m c, v5 = .slice A m c := by obtain ⟨A, c, e⟩ := hO5.read; exact ⟨_, _, _, e⟩
        have hM5 := hM9.below hb5 hM9.lt
        have hMr5 := hMr9.below hb5 hMr9.lt
        have x4 := hM5.cell 4
        have x5 := hM5.cell 5
        have x6 := hM5.cell 6
        have x7 := hM5.cell 7
        have f4 := hM5.free 4
        have f5 := hM5.free 5
        have f6 := hM5.free 6
        have f7 := hM5.free 7
        have hlt5 := hM5.lt
        have hM6 := (((hM5.stored 4 (.int .i64 d.k)).stored 5 (.int .i64 d.n)).stored 6 (.string ⟨d.s.toArray⟩)).stored 7 (.slice I8 L8 q8)
        have hMr7 := (((hMr5.far (p := ⟨w.heap.size, 4, none⟩) (by simp) (.int .i64 d.k)).far (p := ⟨w.heap.size, 5, none⟩) (by simp) (.int .i64 d.n)).far (p := ⟨w.heap.size, 6, none⟩) (by simp) (.string ⟨d.s.toArray⟩)).far (p := ⟨w.heap.size, 7, none⟩) (by simp) (.slice I8 L8 q8)
        simp only [List.getElem?_cons_succ, List.getElem?_cons_zero, List.set_cons_succ, List.set_cons_zero] at x4 x5 x6 x7 hM6
        have y0 := hM6.cell 0
        have y1 := hM6.cell 1
        have y2 := hM6.cell 2
        have y3 := hM6.cell 3
        have y4 := hM6.cell 4
        have y5 := hM6.cell 5
        have y6 := hM6.cell 6
        have y7 := hM6.cell 7
        have y8 := hM6.cell 8
        have cz0 := hMr7.cell 0
        have fz0 := hMr7.free 0
        have cz1 := hMr7.cell 1
        have fz1 := hMr7.free 1
        have cz2 := hMr7.cell 2
        have fz2 := hMr7.free 2
        have cz3 := hMr7.cell 3
        have fz3 := hMr7.free 3
        have cz4 := hMr7.cell 4
        have fz4 := hMr7.free 4
        have cz5 := hMr7.cell 5
        have fz5 := hMr7.free 5
        have cz6 := hMr7.cell 6
        have fz6 := hMr7.free 6
        have cz7 := hMr7.cell 7
        have fz7 := hMr7.free 7
        have cz8 := hMr7.cell 8
        have fz8 := hMr7.free 8
        have hltr := hMr7.lt
        simp only [List.getElem?_cons_succ, List.getElem?_cons_zero] at y0 y1 y2 y3 y4 y5 y6 y7 y8 cz0 cz1 cz2 cz3 cz4 cz5 cz6 cz7 cz8
        have hO5' := Lib.hid hO5
        have hb5' := Lib.hid hb5
        clear hO5 hb5)
      have T4 : Turns (fun k => k = w.heap.size) w5 _ := ((((Turns.refl (fun k => k = w.heap.size) w5).setCell (p := ⟨w.heap.size, 4, none⟩) (fun _ => rfl) (.int .i64 d.k)).setCell (p := ⟨w.heap.size, 5, none⟩) (fun _ => rfl) (.int .i64 d.n)).setCell (p := ⟨w.heap.size, 6, none⟩) (fun _ => rfl) (.string ⟨d.s.toArray⟩)).setCell (p := ⟨w.heap.size, 7, none⟩) (fun _ => rfl) (.slice I8 L8 q8)
      have Tz := nine_turns (T4.mono (Y := fun g => g = w.heap.size ∨ g = w.heap.size + 1) (fun _ _ h => .inl h)) (g := w.heap.size + 1) (fun _ => .inr rfl) 0 (.int .i64 k) (.int .i64 n) (.string ⟨s.toArray⟩) (.slice P9 m9 p9) (.int .i64 d.k) (.int .i64 d.n) (.string ⟨d.s.toArray⟩) (.slice I8 L8 q8) (.slice A8 j c8)
      have Tr := (((Turns.refl (fun k => k = w.heap.size) wr).setCell (p := ⟨w.heap.size, 8, none⟩) (fun _ => rfl) (.slice A8 j c8)).mono (Y := fun g => g = w.heap.size ∨ g = w.heap.size + 1) (fun _ _ h => .inl h)).then ((Turns.of_below hb5'.out (fun g => g = w.heap.size ∨ g = w.heap.size + 1))) (fun _ _ h => h) |>.then Tz (fun _ _ h => h)
      have hMz := nine_res hMr7 (w.heap.size + 1) rfl (.int .i64 k) (.int .i64 n) (.string ⟨s.toArray⟩) (.slice P9 m9 p9) (.int .i64 d.k) (.int .i64 d.n) (.string ⟨d.s.toArray⟩) (.slice I8 L8 q8) (.slice A8 j c8)
      have rz0 := hMz.cell 0
      have rz1 := hMz.cell 1
      have rz2 := hMz.cell 2
      have rz3 := hMz.cell 3
      have rz4 := hMz.cell 4
      have rz5 := hMz.cell 5
      have rz6 := hMz.cell 6
      have rz7 := hMz.cell 7
      have rz8 := hMz.cell 8
      unfold nine at rz0 rz1 rz2 rz3 rz4 rz5 rz6 rz7 rz8
      simp only [List.getElem?_cons_succ, List.getElem?_cons_zero, Nat.zero_add] at rz0 rz1 rz2 rz3 rz4 rz5 rz6 rz7 rz8
      refine bodyPost_ret (v := .agg #[.int .i64 k, .int .i64 n, .string ⟨s.toArray⟩, .slice P9 m9 p9, .int .i64 d.k, .int .i64 d.n, .string ⟨d.s.toArray⟩, .slice I8 L8 q8, .slice A8 j c8]) (by simp [results, Tryz.results8, go_sem, rz0, rz1, rz2, rz3, rz4, rz5, rz6, rz7, rz8]) rfl ⟨.slice P9 m9 p9, .slice I8 L8 q8, .slice A8 j c8, rfl, ?_, ?_⟩
      · refine NewT.of (M := w9.heap.size) (hP'.out.turns Tr (fun g hg hh => by have := (hp9'.out g hg).1; rcases hh with hh | hh <;> omega)) (fun g hg => by have := hp9'.out g hg; omega) (by omega) hw99 hI'.out Tr (fun g hg => by rcases hg with hg | hg <;> omega) (D0 := fun g => wr.heap.size ≤ g) ?_ (fun _ h => h)
        exact (Dat.ind (Dat.turns hO5'.out Tz (fun g _ hs hh => by have h9 := hsk'.out; rcases hh with hh | hh <;> omega))).mono (fun g _ hs => by have h9 := hsk'.out; omega)
      · exact hb.trans (Tr.below hb.size (fun g hg => by rcases hg with hg | hg <;> omega))
theorem town_any (t : Tm) : Ow10 t := Tl.all_one Ow10 ow_step t
end Go.Proofs.YtpiekdcbjkgipaaGreat
