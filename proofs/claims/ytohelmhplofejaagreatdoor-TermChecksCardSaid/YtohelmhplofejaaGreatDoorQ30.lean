/- What package term's writer puts: a term, its kids. -/
import Derived.Test.YtohelmhplofejaaGreatDoorQ29
namespace Go.Proofs.YtohelmhplofejaaGreatDoor
open Go.ChangeShapes Go.WideShapes Go.ChangeAt Go.RowKit
open TM (Tl Tm)

/-- a term's own fields can be written -/
structure Tw1 (t : Tm) : Prop where
  s : t.s.length ≤ 60
  p : t.ps.length ≤ 24
  n : b64 t.n
  q : ∀ q ∈ t.ps, b64 q
  d : t.k = 1 → TM.quo t.d = true
def Twf : Tl → Prop
  | .nil => True
  | .cons k n s ps d ks r => Tw1 ⟨k, n, s, ps, d, ks⟩ ∧ Twf ks ∧ Twf r
theorem Twf.at_ : ∀ {d : Tl} {i : Nat} {x : Tm}, Twf d → d.at_ i = some x → Tw1 x ∧ Twf x.ks
  | .nil, i, x, _, h => by simp [Tl.at_] at h
  | .cons k n s ps d ks r, 0, x, ⟨h1, h2, h3⟩, h => by
    simp only [Tl.at_, Option.some.injEq] at h
    subst h
    exact ⟨h1, h2⟩
  | .cons k n s ps d ks r, i + 1, x, ⟨h1, h2, h3⟩, h => Twf.at_ h3 (show r.at_ i = some x from h)
theorem tx1_len {t : Tm} (h : Tw1 t) (inner : List UInt8) : (TM.tx1 t.k t.n t.s t.ps t.d inner).length ≤ 5900000 + inner.length := by
  have h1 := TM.loc_len h.n
  have h2 := TM.prt_len t.n t.ps h.q
  have h3 := h.p
  have h4 := h.s
  have h5 : (TM.hdt t.k t.n t.s t.ps).length ≤ 1100 := by
    unfold TM.hdt
    repeat
      split
      · simp; try omega
    simp
  unfold TM.tx1
  split
  · rename_i hk
    have := TM.qtx_len (h.d hk)
    omega
  · split
    · omega
    · split
      · omega
      · simp; omega
theorem txs_len : ∀ (f : Bool) (d : Tl), Twf d → (TM.txs f d).length ≤ 6000000 * TM.sz d
  | f, .nil, _ => by simp [TM.txs]
  | f, .cons k n s ps d ks r, ⟨h1, h2, h3⟩ => by
    have e1 := tx1_len h1 (TM.txs true ks)
    have e2 := txs_len true ks h2
    have e3 := txs_len false r h3
    have e4 : (if f then ([] : List UInt8) else [32]).length ≤ 1 := by split <;> simp
    simp only [TM.txs, List.length_append, TM.sz] at e1 ⊢
    omega
theorem ttx_len {t : Tm} (h1 : Tw1 t) (h2 : Twf t.ks) : (TM.ttx t).length + 1 ≤ 6000000 * (TM.sz t.ks + 1) := by
  have e1 := tx1_len h1 (TM.txs true t.ks)
  have e2 := txs_len true t.ks h2
  unfold TM.ttx
  omega
def TwOk (t : Tm) : Prop := ∀ (W0 w : World) (up ui uk : Value) (B p : Nat) (v : Value) (l : List UInt8), TmD W0 (fun g => g ≠ p) t up ui uk → Tw1 t → Twf t.ks → Base W0 w B p v l → l.length + 7000000 * (TM.sz t.ks + 1) ≤ 10000000000000 →
  Calls Tryz.prog 37 #[.pointer (some ⟨p, 0, none⟩), tmv t up ui uk] w (WtN B p (l ++ TM.ttx t) w)
theorem head_any (k n : Int) (s : List UInt8) (ps : List Int) (P3 : Option Addr) (p3 : Nat) (dk dn : Int) (dS : ByteArray) (vi vk : Value) (W0 w : World) (B p : Nat) (v : Value) (l : List UInt8) (hp : PD W0 (fun g => g ≠ p) (.slice P3 ps.length p3) ps) (h64 : ∀ q ∈ ps, b64 q) (hn : b64 n) (hs : s.length ≤ 60) (hb : Base W0 w B p v l) (hl : l.length + 40 * ps.length + 200 ≤ 100000000000000) :
    Calls Tryz.prog 58 #[.pointer (some ⟨p, 0, none⟩), .agg #[.int .i64 k, .int .i64 n, .string ⟨s.toArray⟩, .slice P3 ps.length p3, .int .i64 dk, .int .i64 dn, .string dS, vi, vk]] w (WtN B p (l ++ TM.hdt k n s ps) w) := by
  by_cases h4 : k = 4
  · subst h4; exact head4 n s ps P3 p3 dk dn dS vi vk W0 w B p v l hp h64 hn hs hb hl
  by_cases h5 : k = 5
  · subst h5; exact head5 n s ps P3 p3 dk dn dS vi vk W0 w B p v l hp h64 hn hs hb hl
  by_cases h6 : k = 6
  · subst h6; exact head6 n s ps P3 p3 dk dn dS vi vk W0 w B p v l hp h64 hn hs hb hl
  by_cases h7 : k = 7
  · subst h7; exact head7 n s ps P3 p3 dk dn dS vi vk W0 w B p v l hp h64 hn hs hb hl
  by_cases h8 : k = 8
  · subst h8; exact head8 n s ps P3 p3 dk dn dS vi vk W0 w B p v l hp h64 hn hs hb hl
  by_cases h9 : k = 9
  · subst h9; exact head9 n s ps P3 p3 dk dn dS vi vk W0 w B p v l hp h64 hn hs hb hl
  exact head_none n s ps P3 p3 dk dn dS vi vk W0 w B p v l k (by omega) hp h64 hn hs hb hl
theorem bnd_drop {a b c : Nat} (h : a + 1 + b ≤ c) : a + b ≤ c := by omega
theorem bnd_one {cur : List UInt8} {b c : Nat} (h : cur.length + 1 + b ≤ c) : (cur ++ [32]).length + b ≤ c := by simpa using h
set_option maxRecDepth 100000 in
set_option maxHeartbeats 4000000 in
theorem kids_any (ks : Tl) (hR : ∀ i x, ks.at_ i = some x → TwOk x) (W0 w : World) (uk : Value) (B p : Nat) (v : Value) (l : List UInt8) (hk : TD W0 (fun g => g ≠ p) uk ks) (hf : Twf ks) (hb : Base W0 w B p v l) (hl : l.length + 7000000 * TM.sz ks + 10 ≤ 10000000000000) :
    Calls Tryz.prog 59 #[.pointer (some ⟨p, 0, none⟩), uk] w (WtN B p (l ++ TM.txs true ks) w) := by
  obtain ⟨A1, c1, rfl⟩ := hk.read
  have hlen := hk.len
  obtain ⟨N, hN⟩ : ∃ N, ks.len = N := ⟨_, rfl⟩
  rw [hN] at hk hlen ⊢
  have hN' := Lib.hid hN
  have hR' := Lib.hid hR
  have hf' := Lib.hid hf
  have hb' := Lib.hid hb
  have htl := txs_len true ks hf
  have htl' := Lib.hid htl
  clear hN hR hf hb htl
  go_enter Tryz.func59, Tryz.ntmps59
  go_wp2_with fail
  go_loopw [8] (fun i wr => ∃ (j : Nat) (cur : List UInt8) (vj : Value), j ≤ N ∧ i = .int .i64 j ∧ Hid (cur ++ TM.txs (decide (j = 0)) (ks.dr j) = l ++ TM.txs true ks) ∧ Hid (cur.length ≤ l.length + 6000000 * TM.sz (ks.tk j)) ∧ Base W0 wr B p vj cur ∧ Ch B p w wr) (fun i _ => N - (intOf i).toNat)
  case atStart => exact ⟨0, l, v, Nat.zero_le _, rfl, Lib.hid (by rw [Tl.dr_zero]; simp), Lib.hid (by omega), hb'.out, Ch.refl _ _ _⟩
  case round =>
    obtain ⟨j, cur, vj, hj, rfl, hcur, hcb, hbj, hcj⟩ := hrel
    have hbj' := Lib.hid hbj
    have hcj' := Lib.hid hcj
    have hcl := hcur.out
    clear hbj hcj
    by_cases hlt : j < N
    · obtain ⟨x, hx⟩ := ks.at_some j (by rw [hN'.out]; exact hlt)
      obtain ⟨b, o, P5, p5, I5, q5, K5, r5, rfl, hb0, p0, p1, p2, pp, p4, p55, p6, pi, pk, hT5⟩ := hk.at_ hbj'.out.below hx
      have hfx := hf'.out.at_ hx
      have hxs := TM.sz_in hx
      have hsz := TM.sz_tk ks j
      have hsa := TM.sz_at hx
      rw [TM.txs_at hx] at hcl
      have hzt : TM.sz (ks.tk (j + 1)) = TM.sz (ks.tk j) + (TM.sz x.ks + 1) := by rw [Tl.tk_snoc ks j x hx, Tl.snoc, TM.sz_app]; simp [Tl.one, TM.sz]
      have htl2 := Lib.hid (ttx_len hfx.1 hfx.2)
      have hC := Lib.hid (fun (w' : World) (v' : Value) (l' : List UInt8) (hb2 : Base W0 w' B p v' l') (hl2 : l'.length + 7000000 * (TM.sz x.ks + 1) ≤ 10000000000000) => hR'.out j x hx W0 w' _ _ _ B p v' l' hT5 hfx.1 hfx.2 hb2 hl2)
      unfold tmv at hC
      have hKa : Below wr.heap.size wr (wr.alloc (.cells #[.int .i64 x.k, .int .i64 x.n, .string ⟨x.s.toArray⟩, .slice P5 x.ps.length p5, .int .i64 x.d.k, .int .i64 x.d.n, .string ⟨x.d.s.toArray⟩, .slice I5 x.d.is.len q5, .slice K5 x.ks.len r5] 28)) := (Below.refl _ wr).alloc (Nat.le_refl _) _
      have hb1 := hbj'.out.grown hKa
      have hca := Lib.hid (hcj'.out.trans (Ch.of_below (B := B) (p := p) hKa))
      have hcl' := Lib.hid hcl
      have hcb' := Lib.hid hcb.out
      have hzt' := Lib.hid hzt
      have hbnd : cur.length + 1 + 7000000 * (TM.sz x.ks + 1) ≤ 10000000000000 := by have := hcb.out; omega
      have hbnd' := Lib.hid hbnd
      have bnd0 := Lib.hid (bnd_drop hbnd)
      have bnd1 := Lib.hid (bnd_one hbnd)
      clear hT5 hcl hxs hsz hsa hKa hcb hzt hfx hx hbnd
      by_cases hz : j = 0
      · have hz' := Lib.hid hz
        have hj0 : decide (0 < j) = false := decide_eq_false (by omega)
        have hj1 : ¬ 0 < j := by omega
        clear hz
        go_wp2_with fail
        go_at_call 37
        refine (hC.out _ _ _ hb1 bnd0.out).mono ?_
        rintro e w8 ⟨rfl, ⟨v8, hw8⟩, hc8⟩
        have G8 := Lib.hid (hb1.on hw8 hc8)
        have hc9 := Lib.hid (hca.out.trans hc8)
        clear hw8 hc8
        go_wp2_with fail
        go_roundw
        case rel => exact ⟨j + 1, _, v8, by omega, by go_num, Lib.hid (by have h := hcl'.out; rw [show decide (j = 0) = true by simp [hz'.out], if_pos rfl, List.nil_append] at h; rw [← h]; simp [List.append_assoc]), Lib.hid (by simp only [List.length_append]; have := hcb'.out; have := htl2.out; have := hzt'.out; omega), G8.out, hc9.out⟩
        case measure => simp [intOf]; omega
      · have hj0 : 0 < j := by omega
        have hz' := Lib.hid hz
        clear hz
        go_wp2_with fail
        go_at_call 55
        refine (hb1.put [32] (by have := hbnd'.out; simp only [List.length_cons, List.length_nil]; omega)).mono ?_
        rintro e w4 ⟨rfl, ⟨v4, hw4⟩, hc4⟩
        have G4 := hb1.on hw4 hc4
        have hM4 := (Lies.made wr 28 #[.int .i64 x.k, .int .i64 x.n, .string ⟨x.s.toArray⟩, .slice P5 x.ps.length p5, .int .i64 x.d.k, .int .i64 x.d.n, .string ⟨x.d.s.toArray⟩, .slice I5 x.d.is.len q5, .slice K5 x.ks.len r5]).ch (by decide) (by have := hbj'.out.wt.lt.2; omega) hc4
        have z0 := hM4.cell 0
        have z1 := hM4.cell 1
        have z2 := hM4.cell 2
        have z3 := hM4.cell 3
        have z4 := hM4.cell 4
        have z5 := hM4.cell 5
        have z6 := hM4.cell 6
        have z7 := hM4.cell 7
        have z8 := hM4.cell 8
        simp only [List.getElem?_cons_succ, List.getElem?_cons_zero] at z0 z1 z2 z3 z4 z5 z6 z7 z8
        have hc5 := Lib.hid (hca.out.trans hc4)
        clear hw4 hc4 hM4
        go_wp2_with fail
        go_at_call 37
        refine (hC.out _ _ _ G4 bnd1.out).mono ?_
        rintro e w8 ⟨rfl, ⟨v8, hw8⟩, hc8⟩
        have G8 := Lib.hid (G4.on hw8 hc8)
        have hc9 := Lib.hid (hc5.out.trans hc8)
        clear hw8 hc8
        go_wp2_with fail
        go_roundw
        case rel => exact ⟨j + 1, _, v8, by omega, by go_num, Lib.hid (by have h := hcl'.out; rw [show decide (j = 0) = false by simp [hz'.out], if_neg (by simp)] at h; rw [← h]; simp [List.append_assoc]), Lib.hid (by simp only [List.length_append, List.length_cons, List.length_nil]; have := hcb'.out; have := htl2.out; have := hzt'.out; omega), G8.out, hc9.out⟩
        case measure => simp [intOf]; omega
    · obtain rfl : j = N := by omega
      rw [Tl.dr_end ks j (by rw [hN'.out]; exact Nat.le_refl _), TM.txs, List.append_nil] at hcl
      have hcl' := Lib.hid hcl
      have hw := Lib.hid hbj'.out.wt
      clear hcl
      go_wp2_with fail
      go_end0
      exact ⟨rfl, ⟨vj, by rw [← hcl'.out]; exact hw.out⟩, hcj'.out⟩
end Go.Proofs.YtohelmhplofejaaGreatDoor

/- What package term's writer puts: a term, whatever its kind. -/
namespace Go.Proofs.YtohelmhplofejaaGreatDoor
open Go.ChangeShapes Go.WideShapes Go.ChangeAt Go.RowKit
open TM (Tl Tm)

theorem quoted1_any (d : RM.Dm) (w : World) (u : Value) (h : In w u d.is) (hq : TM.quo d = true) (hT : Tab w) :
    Calls Tryz.prog 56 #[dtv d u] w fun e w' => e = .returned (.string ⟨(TM.qtx d).toArray⟩) ∧ Went w w' := tquoted_any d w u h hq hT
theorem hdt_len {k n : Int} {s : List UInt8} {ps : List Int} (hn : b64 n) (hs : s.length ≤ 60) (hp : ps.length ≤ 24) (hq : ∀ q ∈ ps, b64 q) : (TM.hdt k n s ps).length ≤ 1100 := by
  have h1 := TM.loc_len hn
  have h2 := TM.prt_len n ps hq
  unfold TM.hdt
  repeat
    split
    · simp; try omega
  simp
theorem bnd_a {l h : List UInt8} {L z : Nat} (hl : l.length + 7000000 * (z + 1) ≤ 10000000000000) (_hh : h.length ≤ 1100) (hp : L ≤ 24) : (l ++ [(40 : UInt8)]).length + 40 * L + 200 ≤ 100000000000000 := by
  simp only [List.length_append, List.length_cons, List.length_nil]; omega
theorem bnd_b {l h : List UInt8} {z : Nat} (hl : l.length + 7000000 * (z + 1) ≤ 10000000000000) (hh : h.length ≤ 1100) : (l ++ [(40 : UInt8)] ++ h).length + 7000000 * z + 10 ≤ 10000000000000 := by
  simp only [List.length_append, List.length_cons, List.length_nil]; omega
theorem bnd_c {l h x : List UInt8} {z : Nat} (hl : l.length + 7000000 * (z + 1) ≤ 10000000000000) (hh : h.length ≤ 1100) (hx : x.length ≤ 6000000 * z) : (l ++ [(40 : UInt8)] ++ h ++ x).length + [(41 : UInt8)].length ≤ 100000000000000 := by
  simp only [List.length_append, List.length_cons, List.length_nil]; omega
set_option maxRecDepth 100000 in
set_option maxHeartbeats 4000000 in
theorem tw_one (n : Int) (s : List UInt8) (ps : List Int) (d : RM.Dm) (ks : Tl) (_hR : ∀ i x, ks.at_ i = some x → TwOk x) : TwOk ⟨1, n, s, ps, d, ks⟩ := by
  intro W0 w up ui uk B p v l hT h1 h2 hb hl
  obtain ⟨P3, p3, rfl⟩ := hT.p.read
  obtain ⟨I7, q7, rfl⟩ := hT.d.read
  obtain ⟨A1, c1, rfl⟩ := hT.k.read
  unfold tmv
  simp only at hl ⊢
  have hba : Below w.heap.size w (w.alloc (.cells #[.int .i64 1, .int .i64 n, .string ⟨s.toArray⟩, .slice P3 ps.length p3, .int .i64 d.k, .int .i64 d.n, .string ⟨d.s.toArray⟩, .slice I7 d.is.len q7, .slice A1 ks.len c1] 28)) := went_alloc _ _
  have hM := Lies.made w 28 #[.int .i64 1, .int .i64 n, .string ⟨s.toArray⟩, .slice P3 ps.length p3, .int .i64 d.k, .int .i64 d.n, .string ⟨d.s.toArray⟩, .slice I7 d.is.len q7, .slice A1 ks.len c1]
  have hb1 := Lib.hid (hb.grown hba)
  have hca := Lib.hid (Ch.of_below (B := B) (p := p) hba)
  have hw0 : W0.heap.size ≤ w.heap.size := hb.below.size
  have hpp := hb.wt.lt.2
  have hQ := Lib.hid (quoted1_any d _ _ (hT.d _ hb1.out.below) (h1.d rfl) hb1.out.tabNow)
  have hql := TM.qtx_len (h1.d rfl)
  have e : TM.ttx ⟨1, n, s, ps, d, ks⟩ = TM.qtx d := by simp [TM.ttx, TM.tx1]
  rw [e]
  simp only at hql
  have hbn : l.length + (TM.qtx d).length ≤ 100000000000000 := by omega
  have hbn' := Lib.hid hbn
  generalize TM.qtx d = t at hQ hbn' ⊢
  unfold dtv at hQ
  generalize ps.length = L3 at hM hb1 hca hQ ⊢
  generalize ks.len = N at hM hb1 hca hQ ⊢
  generalize d.is.len = L7 at hM hb1 hca hQ ⊢
  clear hT h1 h2 hb hba _hR hql e hbn hl
  go_enter Tryz.func37, Tryz.ntmps37
  go_wp2_with fail
  go_at_call 56
  refine hQ.out.mono ?_
  rintro e w3 ⟨rfl, hb3⟩
  have G3 := hb1.out.grown hb3
  have hc3 := Lib.hid (hca.out.trans (Ch.of_below hb3))
  clear hb3
  go_wp2_with fail
  go_at_call 55
  refine (G3.put t hbn'.out).mono ?_
  rintro e w4 ⟨rfl, hw4, hc4⟩
  have hc5 := Lib.hid (hc3.out.trans hc4)
  have hw5 := Lib.hid hw4
  clear hc4 hw4
  go_wp2_with fail
  go_end0
  exact ⟨rfl, hw5.out, hc5.out⟩
set_option maxRecDepth 100000 in
set_option maxHeartbeats 4000000 in
theorem tw_two (n : Int) (s : List UInt8) (ps : List Int) (d : RM.Dm) (ks : Tl) (_hR : ∀ i x, ks.at_ i = some x → TwOk x) : TwOk ⟨2, n, s, ps, d, ks⟩ := by
  intro W0 w up ui uk B p v l hT h1 h2 hb hl
  obtain ⟨P3, p3, rfl⟩ := hT.p.read
  obtain ⟨I7, q7, rfl⟩ := hT.d.read
  obtain ⟨A1, c1, rfl⟩ := hT.k.read
  unfold tmv
  simp only at hl ⊢
  have hba : Below w.heap.size w (w.alloc (.cells #[.int .i64 2, .int .i64 n, .string ⟨s.toArray⟩, .slice P3 ps.length p3, .int .i64 d.k, .int .i64 d.n, .string ⟨d.s.toArray⟩, .slice I7 d.is.len q7, .slice A1 ks.len c1] 28)) := went_alloc _ _
  have hM := Lies.made w 28 #[.int .i64 2, .int .i64 n, .string ⟨s.toArray⟩, .slice P3 ps.length p3, .int .i64 d.k, .int .i64 d.n, .string ⟨d.s.toArray⟩, .slice I7 d.is.len q7, .slice A1 ks.len c1]
  have hb1 := Lib.hid (hb.grown hba)
  have hca := Lib.hid (Ch.of_below (B := B) (p := p) hba)
  have hw0 : W0.heap.size ≤ w.heap.size := hb.below.size
  have hpp := hb.wt.lt.2
  have hlc := Lib.hid (local_any n h1.n _ hb1.out.tabNow)
  have hlo := TM.loc_len h1.n
  have e : TM.ttx ⟨2, n, s, ps, d, ks⟩ = TM.loc n := by simp [TM.ttx, TM.tx1]
  rw [e]
  simp only at hlo
  have hbn : l.length + (TM.loc n).length ≤ 100000000000000 := by omega
  have hbn' := Lib.hid hbn
  generalize TM.loc n = t at hlc hbn' ⊢
  generalize ps.length = L3 at hM hb1 hca hlc ⊢
  generalize ks.len = N at hM hb1 hca hlc ⊢
  generalize d.is.len = L7 at hM hb1 hca hlc ⊢
  clear hT h1 h2 hb hba _hR hlo e hbn hl
  go_enter Tryz.func37, Tryz.ntmps37
  go_wp2_with fail
  go_at_call 57
  refine hlc.out.mono ?_
  rintro e w3 ⟨rfl, hb3⟩
  have hM3 := hM.below hb3 hM.lt
  have x2 := hM3.cell 2
  have f2 := hM3.free 2
  have hlt := hM3.lt
  have G3 := hb1.out.grown hb3
  have G4 := Lib.hid (G3.stored_box hM3 (by decide) 2 (.string ⟨t.toArray⟩))
  simp only [List.getElem?_cons_succ, List.getElem?_cons_zero] at x2
  have hc3 := Lib.hid (hca.out.trans (Ch.of_below hb3))
  clear hb3 G3
  go_wp2_with fail
  go_at_call 55
  refine (G4.out.put t hbn'.out).mono ?_
  rintro e w5 ⟨rfl, hw5, hc5⟩
  have hw6 := Lib.hid hw5
  have hc6 := Lib.hid hc5
  clear hw5 hc5
  go_wp2_with fail
  go_end0
  exact ⟨rfl, hw6.out, (hc3.out.box (Nat.le_refl _) 2 _).trans hc6.out⟩
set_option maxRecDepth 100000 in
set_option maxHeartbeats 4000000 in
theorem tw_three (n : Int) (s : List UInt8) (ps : List Int) (d : RM.Dm) (ks : Tl) (_hR : ∀ i x, ks.at_ i = some x → TwOk x) : TwOk ⟨3, n, s, ps, d, ks⟩ := by
  intro W0 w up ui uk B p v l hT h1 h2 hb hl
  obtain ⟨P3, p3, rfl⟩ := hT.p.read
  obtain ⟨I7, q7, rfl⟩ := hT.d.read
  obtain ⟨A1, c1, rfl⟩ := hT.k.read
  unfold tmv
  simp only at hl ⊢
  have hba : Below w.heap.size w (w.alloc (.cells #[.int .i64 3, .int .i64 n, .string ⟨s.toArray⟩, .slice P3 ps.length p3, .int .i64 d.k, .int .i64 d.n, .string ⟨d.s.toArray⟩, .slice I7 d.is.len q7, .slice A1 ks.len c1] 28)) := went_alloc _ _
  have hM := Lies.made w 28 #[.int .i64 3, .int .i64 n, .string ⟨s.toArray⟩, .slice P3 ps.length p3, .int .i64 d.k, .int .i64 d.n, .string ⟨d.s.toArray⟩, .slice I7 d.is.len q7, .slice A1 ks.len c1]
  have hb1 := Lib.hid (hb.grown hba)
  have hca := Lib.hid (Ch.of_below (B := B) (p := p) hba)
  have hw0 : W0.heap.size ≤ w.heap.size := hb.below.size
  have hpp := hb.wt.lt.2
  have e : TM.ttx ⟨3, n, s, ps, d, ks⟩ = s := by simp [TM.ttx, TM.tx1]
  rw [e]
  have hss := h1.s
  simp only at hss
  have hbn : l.length + s.length ≤ 100000000000000 := by omega
  have hbn' := Lib.hid hbn
  generalize ps.length = L3 at hM hb1 hca ⊢
  generalize ks.len = N at hM hb1 hca ⊢
  generalize d.is.len = L7 at hM hb1 hca ⊢
  clear hT h1 h2 hb hba _hR e hbn hl hss
  go_enter Tryz.func37, Tryz.ntmps37
  go_wp2_with fail
  go_at_call 55
  refine (hb1.out.put s hbn'.out).mono ?_
  rintro e w4 ⟨rfl, hw4, hc4⟩
  have hc5 := Lib.hid (hca.out.trans hc4)
  have hw5 := Lib.hid hw4
  clear hc4 hw4
  go_wp2_with fail
  go_end0
  exact ⟨rfl, hw5.out, hc5.out⟩
set_option maxRecDepth 100000 in
set_option maxHeartbeats 4000000 in
theorem tw_other (k : Int) (k1 : ¬ k = 1) (k2 : ¬ k = 2) (k3 : ¬ k = 3) (n : Int) (s : List UInt8) (ps : List Int) (d : RM.Dm) (ks : Tl) (hR : ∀ i x, ks.at_ i = some x → TwOk x) : TwOk ⟨k, n, s, ps, d, ks⟩ := by
  intro W0 w up ui uk B p v l hT h1 h2 hb hl
  obtain ⟨P3, p3, rfl⟩ := hT.p.read
  obtain ⟨I7, q7, rfl⟩ := hT.d.read
  obtain ⟨A1, c1, rfl⟩ := hT.k.read
  unfold tmv
  simp only at hl ⊢
  have hba : Below w.heap.size w (w.alloc (.cells #[.int .i64 k, .int .i64 n, .string ⟨s.toArray⟩, .slice P3 ps.length p3, .int .i64 d.k, .int .i64 d.n, .string ⟨d.s.toArray⟩, .slice I7 d.is.len q7, .slice A1 ks.len c1] 28)) := went_alloc _ _
  have hM := Lies.made w 28 #[.int .i64 k, .int .i64 n, .string ⟨s.toArray⟩, .slice P3 ps.length p3, .int .i64 d.k, .int .i64 d.n, .string ⟨d.s.toArray⟩, .slice I7 d.is.len q7, .slice A1 ks.len c1]
  have hb1 := Lib.hid (hb.grown hba)
  have hca := Lib.hid (Ch.of_below (B := B) (p := p) hba)
  have hw0 : W0.heap.size ≤ w.heap.size := hb.below.size
  have hpp := hb.wt.lt.2
  have e : TM.ttx ⟨k, n, s, ps, d, ks⟩ = 40 :: (TM.hdt k n s ps ++ (TM.txs true ks ++ [41])) := by simp [TM.ttx, TM.tx1, k1, k2, k3]
  rw [e]
  have hps := h1.p
  simp only at hps
  have hhl := hdt_len (k := k) h1.n h1.s h1.p h1.q
  have hxl := txs_len true ks h2
  have hH := Lib.hid (fun (w' : World) (v' : Value) (l' : List UInt8) (hb' : Base W0 w' B p v' l') (hl' : l'.length + 40 * ps.length + 200 ≤ 100000000000000) => head_any k n s ps P3 p3 d.k d.n ⟨d.s.toArray⟩ (.slice I7 d.is.len q7) (.slice A1 ks.len c1) W0 w' B p v' l' hT.p h1.q h1.n h1.s hb' hl')
  have hK := Lib.hid (fun (w' : World) (v' : Value) (l' : List UInt8) (hb' : Base W0 w' B p v' l') (hl' : l'.length + 7000000 * TM.sz ks + 10 ≤ 10000000000000) => kids_any ks hR W0 w' _ B p v' l' hT.k h2 hb' hl')
  simp only at hhl
  have q1 := Lib.hid (bnd_a hl hhl hps)
  have q2 := Lib.hid (bnd_b hl hhl)
  have q3 := Lib.hid (bnd_c hl hhl hxl)
  have q0 := Lib.hid (show l.length + [(40 : UInt8)].length ≤ 100000000000000 by simp only [List.length_cons, List.length_nil]; omega)
  generalize ps.length = L3 at hM hb1 hca hH q1 ⊢
  generalize ks.len = N at hM hb1 hca hH hK ⊢
  generalize d.is.len = L7 at hM hb1 hca hH ⊢
  clear hT h1 h2 hb hba hR e hl hps hhl hxl
  go_enter Tryz.func37, Tryz.ntmps37
  go_wp2_with fail
  go_at_call 55
  refine (hb1.out.put [40] q0.out).mono ?_
  rintro e w3 ⟨rfl, ⟨v3, hw3⟩, hc3⟩
  have G3 := hb1.out.on hw3 hc3
  have hM3 := hM.ch (by decide) (by omega) hc3
  have z0 := hM3.cell 0
  have z1 := hM3.cell 1
  have z2 := hM3.cell 2
  have z3 := hM3.cell 3
  have z4 := hM3.cell 4
  have z5 := hM3.cell 5
  have z6 := hM3.cell 6
  have z7 := hM3.cell 7
  have z8 := hM3.cell 8
  simp only [List.getElem?_cons_succ, List.getElem?_cons_zero] at z0 z1 z2 z3 z4 z5 z6 z7 z8
  have hc4 := Lib.hid (hca.out.trans hc3)
  clear hc3 hw3
  go_wp2_with fail
  go_at_call 58
  refine (hH.out _ _ _ G3 q1.out).mono ?_
  rintro e w5 ⟨rfl, ⟨v5, hw5⟩, hc5⟩
  have G5 := G3.on hw5 hc5
  have hM5 := hM3.ch (by decide) (by omega) hc5
  have y8 := hM5.cell 8
  simp only [List.getElem?_cons_succ, List.getElem?_cons_zero] at y8
  have hc6 := Lib.hid (hc4.out.trans hc5)
  clear hc5 hw5 z0 z1 z2 z3 z4 z5 z6 z7 z8
  go_wp2_with fail
  go_at_call 59
  refine (hK.out _ _ _ G5 q2.out).mono ?_
  rintro e w7 ⟨rfl, ⟨v7, hw7⟩, hc7⟩
  have G7 := G5.on hw7 hc7
  have hc8 := Lib.hid (hc6.out.trans hc7)
  clear hc7 hw7
  go_wp2_with fail
  go_at_call 55
  refine (G7.put [41] q3.out).mono ?_
  rintro e w9 ⟨rfl, hw9, hc9⟩
  have hwx := Lib.hid hw9
  have hcx := Lib.hid (hc8.out.trans hc9)
  clear hw9 hc9
  go_wp2_with fail
  go_end0
  refine ⟨rfl, ?_, hcx.out⟩
  have h := hwx.out
  simpa [List.append_assoc] using h
theorem tw_step (k n : Int) (s : List UInt8) (ps : List Int) (d : RM.Dm) (ks : Tl) (hR : ∀ i x, ks.at_ i = some x → TwOk x) : TwOk ⟨k, n, s, ps, d, ks⟩ := by
  by_cases k1 : k = 1
  · subst k1; exact tw_one n s ps d ks hR
  by_cases k2 : k = 2
  · subst k2; exact tw_two n s ps d ks hR
  by_cases k3 : k = 3
  · subst k3; exact tw_three n s ps d ks hR
  exact tw_other k k1 k2 k3 n s ps d ks hR
theorem write1_any (t : Tm) : TwOk t := Tl.all_one TwOk tw_step t
end Go.Proofs.YtohelmhplofejaaGreatDoor
