/- What package term's writer puts: a term, its kids. -/
import Derived.Test.YtpiekdcbjkgipaaGreatDoorQ24
import Derived.Test.YtpiekdcbjkgipaaGreatDoorQ6
import Derived.Laws.AppendOwn
import Derived.Lib.SliceRun
import Derived.Lib.Hide
import Derived.Test.YtpiekdcbjkgipaaGreatDoorQ16
namespace Go.Proofs.YtpiekdcbjkgipaaGreatDoor
open Go.ChangeShapes Go.WideShapes Go.ChangeAt Go.RowKit
open TM (Tl Tm)

/-- a term's own fields can be written -/
structure Tw1 (t : Tm) : Prop where
  s : t.s.length ≤ 60
  p : t.ps.length ≤ 24
  n : b64 t.n
  q : ∀ q ∈ t.ps, b64 q
  d : t.k = 1 → TM.quo t.d = true
def Twf : Tl → Prop
  | .nil => True
  | .cons k n s ps d ks r => Tw1 ⟨k, n, s, ps, d, ks⟩ ∧ Twf ks ∧ Twf r
theorem Twf.at_ : ∀ {d : Tl} {i : Nat} {x : Tm}, Twf d → d.at_ i = some x → Tw1 x ∧ Twf x.ks
  | .nil, i, x, _, h => by simp [Tl.at_] at h
  | .cons k n s ps d ks r, 0, x, ⟨h1, h2, h3⟩, h => by
    simp only [Tl.at_, Option.some.injEq] at h
    subst h
    exact ⟨h1, h2⟩
  | .cons k n s ps d ks r, i + 1, x, ⟨h1, h2, h3⟩, h => Twf.at_ h3 (show r.at_ i = some x from h)
theorem tx1_len {t : Tm} (h : Tw1 t) (inner : List UInt8) : (TM.tx1 t.k t.n t.s t.ps t.d inner).length ≤ 5900000 + inner.length := by
  have h1 := TM.loc_len h.n
  have h2 := TM.prt_len t.n t.ps h.q
  have h3 := h.p
  have h4 := h.s
  have h5 : (TM.hdt t.k t.n t.s t.ps).length ≤ 1100 := by
    unfold TM.hdt
    repeat
      split
      · simp; try omega
    simp
  unfold TM.tx1
  split
  · rename_i hk
    have := TM.qtx_len (h.d hk)
    omega
  · split
    · omega
    · split
      · omega
      · simp; omega
theorem txs_len : ∀ (f : Bool) (d : Tl), Twf d → (TM.txs f d).length ≤ 6000000 * TM.sz d
  | f, .nil, _ => by simp [TM.txs]
  | f, .cons k n s ps d ks r, ⟨h1, h2, h3⟩ => by
    have e1 := tx1_len h1 (TM.txs true ks)
    have e2 := txs_len true ks h2
    have e3 := txs_len false r h3
    have e4 : (if f then ([] : List UInt8) else [32]).length ≤ 1 := by split <;> simp
    simp only [TM.txs, List.length_append, TM.sz] at e1 ⊢
    omega
theorem ttx_len {t : Tm} (h1 : Tw1 t) (h2 : Twf t.ks) : (TM.ttx t).length + 1 ≤ 6000000 * (TM.sz t.ks + 1) := by
  have e1 := tx1_len h1 (TM.txs true t.ks)
  have e2 := txs_len true t.ks h2
  unfold TM.ttx
  omega
def TwOk (t : Tm) : Prop := ∀ (W0 w : World) (up ui uk : Value) (B p : Nat) (v : Value) (l : List UInt8), TmD W0 (fun g => g ≠ p) t up ui uk → Tw1 t → Twf t.ks → Base W0 w B p v l → l.length + 7000000 * (TM.sz t.ks + 1) ≤ 10000000000000 →
  Calls Tryz.prog 37 #[.pointer (some ⟨p, 0, none⟩), tmv t up ui uk] w (WtN B p (l ++ TM.ttx t) w)
theorem head_any (k n : Int) (s : List UInt8) (ps : List Int) (P3 : Option Addr) (p3 : Nat) (dk dn : Int) (dS : ByteArray) (vi vk : Value) (W0 w : World) (B p : Nat) (v : Value) (l : List UInt8) (hp : PD W0 (fun g => g ≠ p) (.slice P3 ps.length p3) ps) (h64 : ∀ q ∈ ps, b64 q) (hn : b64 n) (hs : s.length ≤ 60) (hb : Base W0 w B p v l) (hl : l.length + 40 * ps.length + 200 ≤ 100000000000000) :
    Calls Tryz.prog 58 #[.pointer (some ⟨p, 0, none⟩), .agg #[.int .i64 k, .int .i64 n, .string ⟨s.toArray⟩, .slice P3 ps.length p3, .int .i64 dk, .int .i64 dn, .string dS, vi, vk]] w (WtN B p (l ++ TM.hdt k n s ps) w) := by
  by_cases h4 : k = 4
  · subst h4; exact head4 n s ps P3 p3 dk dn dS vi vk W0 w B p v l hp h64 hn hs hb hl
  by_cases h5 : k = 5
  · subst h5; exact head5 n s ps P3 p3 dk dn dS vi vk W0 w B p v l hp h64 hn hs hb hl
  by_cases h6 : k = 6
  · subst h6; exact head6 n s ps P3 p3 dk dn dS vi vk W0 w B p v l hp h64 hn hs hb hl
  by_cases h7 : k = 7
  · subst h7; exact head7 n s ps P3 p3 dk dn dS vi vk W0 w B p v l hp h64 hn hs hb hl
  by_cases h8 : k = 8
  · subst h8; exact head8 n s ps P3 p3 dk dn dS vi vk W0 w B p v l hp h64 hn hs hb hl
  by_cases h9 : k = 9
  · subst h9; exact head9 n s ps P3 p3 dk dn dS vi vk W0 w B p v l hp h64 hn hs hb hl
  exact head_none n s ps P3 p3 dk dn dS vi vk W0 w B p v l k (by omega) hp h64 hn hs hb hl
theorem bnd_drop {a b c : Nat} (h : a + 1 + b ≤ c) : a + b ≤ c := by omega
theorem bnd_one {cur : List UInt8} {b c : Nat} (h : cur.length + 1 + b ≤ c) : (cur ++ [32]).length + b ≤ c := by simpa using h
set_option maxRecDepth 100000 in
set_option maxHeartbeats 4000000 in
theorem kids_any (ks : Tl) (hR : ∀ i x, ks.at_ i = some x → TwOk x) (W0 w : World) (uk : Value) (B p : Nat) (v : Value) (l : List UInt8) (hk : TD W0 (fun g => g ≠ p) uk ks) (hf : Twf ks) (hb : Base W0 w B p v l) (hl : l.length + 7000000 * TM.sz ks + 10 ≤ 10000000000000) :
    Calls Tryz.prog 59 #[.pointer (some ⟨p, 0, none⟩), uk] w (WtN B p (l ++ TM.txs true ks) w) := by
  obtain ⟨A1, c1, rfl⟩ := hk.read
  have hlen := hk.len
  obtain ⟨N, hN⟩ : ∃ N, ks.len = N := ⟨_, rfl⟩
  rw [hN] at hk hlen ⊢
  have hN' := Lib.hid hN
  have hR' := Lib.hid hR
  have hf' := Lib.hid hf
  have hb' := Lib.hid hb
  have htl := txs_len true ks hf
  have htl' := Lib.hid htl
  clear hN hR hf hb htl
  go_enter Tryz.func59, Tryz.ntmps59
  go_wp2_with fail
  go_loopw [8] (fun i wr => ∃ (j : Nat) (cur : List UInt8) (vj : Value), j ≤ N ∧ i = .int .i64 j ∧ Hid (cur ++ TM.txs (decide (j = 0)) (ks.dr j) = l ++ TM.txs true ks) ∧ Hid (cur.length ≤ l.length + 6000000 * TM.sz (ks.tk j)) ∧ Base W0 wr B p vj cur ∧ Ch B p w wr) (fun i _ => N - (intOf i).toNat)
  case atStart => exact ⟨0, l, v, Nat.zero_le _, rfl, Lib.hid (by rw [Tl.dr_zero]; simp), Lib.hid (by omega), hb'.out, Ch.refl _ _ _⟩
  case round =>
    obtain ⟨j, cur, vj, hj, rfl, hcur, hcb, hbj, hcj⟩ := hrel
    have hbj' := Lib.hid hbj
    have hcj' := Lib.hid hcj
    have hcl := hcur.out
    clear hbj hcj
    by_cases hlt : j < N
    · obtain ⟨x, hx⟩ := ks.at_some j (by rw [hN'.out]; exact hlt)
      obtain ⟨b, o, P5, p5, I5, q5, K5, r5, rfl, hb0, p0, p1, p2, pp, p4, p55, p6, pi, pk, hT5⟩ := hk.at_ hbj'.out.below hx
      have hfx := hf'.out.at_ hx
      have hxs := TM.sz_in hx
      have hsz := TM.sz_tk ks j
      have hsa := TM.sz_at hx
      rw [TM.txs_at hx] at hcl
      have hzt : TM.sz (ks.tk (j + 1)) = TM.sz (ks.tk j) + (TM.sz x.ks + 1) := by rw [Tl.tk_snoc ks j x hx, Tl.snoc, TM.sz_app]; simp [Tl.one, TM.sz]
      have htl2 := Lib.hid (ttx_len hfx.1 hfx.2)
      have hC := Lib.hid (fun (w' : World) (v' : Value) (l' : List UInt8) (hb2 : Base W0 w' B p v' l') (hl2 : l'.length + 7000000 * (TM.sz x.ks + 1) ≤ 10000000000000) => hR'.out j x hx W0 w' _ _ _ B p v' l' hT5 hfx.1 hfx.2 hb2 hl2)
      unfold tmv at hC
      have hKa : Below wr.heap.size wr (wr.alloc (.cells #[.int .i64 x.k, .int .i64 x.n, .string ⟨x.s.toArray⟩, .slice P5 x.ps.length p5, .int .i64 x.d.k, .int .i64 x.d.n, .string ⟨x.d.s.toArray⟩, .slice I5 x.d.is.len q5, .slice K5 x.ks.len r5] 28)) := (Below.refl _ wr).alloc (Nat.le_refl _) _
      have hb1 := hbj'.out.grown hKa
      have hca := Lib.hid (hcj'.out.trans (Ch.of_below (B := B) (p := p) hKa))
      have hcl' := Lib.hid hcl
      have hcb' := Lib.hid hcb.out
      have hzt' := Lib.hid hzt
      have hbnd : cur.length + 1 + 7000000 * (TM.sz x.ks + 1) ≤ 10000000000000 := by have := hcb.out; omega
      have hbnd' := Lib.hid hbnd
      have bnd0 := Lib.hid (bnd_drop hbnd)
      have bnd1 := Lib.hid (bnd_one hbnd)
      clear hT5 hcl hxs hsz hsa hKa hcb hzt hfx hx hbnd
      by_cases hz : j = 0
      · have hz' := Lib.hid hz
        have hj0 : decide (0 < j) = false := decide_eq_false (by omega)
        have hj1 : ¬ 0 < j := by omega
        clear hz
        go_wp2_with fail
        go_at_call 37
        refine (hC.out _ _ _ hb1 bnd0.out).mono ?_
        rintro e w8 ⟨rfl, ⟨v8, hw8⟩, hc8⟩
        have G8 := Lib.hid (hb1.on hw8 hc8)
        have hc9 := Lib.hid (hca.out.trans hc8)
        clear hw8 hc8
        go_wp2_with fail
        go_roundw
        case rel => exact ⟨j + 1, _, v8, by omega, by go_num, Lib.hid (by have h := hcl'.out; rw [show decide (j = 0) = true by simp [hz'.out], if_pos rfl, List.nil_append] at h; rw [← h]; simp [List.append_assoc]), Lib.hid (by simp only [List.length_append]; have := hcb'.out; have := htl2.out; have := hzt'.out; omega), G8.out, hc9.out⟩
        case measure => simp [intOf]; omega
      · have hj0 : 0 < j := by omega
        have hz' := Lib.hid hz
        clear hz
        go_wp2_with fail
        go_at_call 55
        refine (hb1.put [32] (by have := hbnd'.out; simp only [List.length_cons, List.length_nil]; omega)).mono ?_
        rintro e w4 ⟨rfl, ⟨v4, hw4⟩, hc4⟩
        have G4 := hb1.on hw4 hc4
        have hM4 := (Lies.made wr 28 #[.int .i64 x.k, .int .i64 x.n, .string ⟨x.s.toArray⟩, .slice P5 x.ps.length p5, .int .i64 x.d.k, .int .i64 x.d.n, .string ⟨x.d.s.toArray⟩, .slice I5 x.d.is.len q5, .slice K5 x.ks.len r5]).ch (by decide) (by have := hbj'.out.wt.lt.2; omega) hc4
        have z0 := hM4.cell 0
        have z1 := hM4.cell 1
        have z2 := hM4.cell 2
        have z3 := hM4.cell 3
        have z4 := hM4.cell 4
        have z5 := hM4.cell 5
        have z6 := hM4.cell 6
        have z7 := hM4.cell 7
        have z8 := hM4.cell 8
        simp only [List.getElem?_cons_succ, List.getElem?_cons_zero] at z0 z1 z2 z3 z4 z5 z6 z7 z8
        have hc5 := Lib.hid (hca.out.trans hc4)
        clear hw4 hc4 hM4
        go_wp2_with fail
        go_at_call 37
        refine (hC.out _ _ _ G4 bnd1.out).mono ?_
        rintro e w8 ⟨rfl, ⟨v8, hw8⟩, hc8⟩
        have G8 := Lib.hid (G4.on hw8 hc8)
        have hc9 := Lib.hid (hc5.out.trans hc8)
        clear hw8 hc8
        go_wp2_with fail
        go_roundw
        case rel => exact ⟨j + 1, _, v8, by omega, by go_num, Lib.hid (by have h := hcl'.out; rw [show decide (j = 0) = false by simp [hz'.out], if_neg (by simp)] at h; rw [← h]; simp [List.append_assoc]), Lib.hid (by simp only [List.length_append, List.length_cons, List.length_nil]; have := hcb'.out; have := htl2.out; have := hzt'.out; omega), G8.out, hc9.out⟩
        case measure => simp [intOf]; omega
    · obtain rfl : j = N := by omega
      rw [Tl.dr_end ks j (by rw [hN'.out]; exact Nat.le_refl _), TM.txs, List.append_nil] at hcl
      have hcl' := Lib.hid hcl
      have hw := Lib.hid hbj'.out.wt
      clear hcl
      go_wp2_with fail
      go_end0
      exact ⟨rfl, ⟨vj, by rw [← hcl'.out]; exact hw.out⟩, hcj'.out⟩
end Go.Proofs.YtpiekdcbjkgipaaGreatDoor

/- What package term's writer puts: a term, whatever its kind. -/
namespace Go.Proofs.YtpiekdcbjkgipaaGreatDoor
open Go.ChangeShapes Go.WideShapes Go.ChangeAt Go.RowKit
open TM (Tl Tm)

theorem quoted1_any (d : RM.Dm) (w : World) (u : Value) (h : In w u d.is) (hq : TM.quo d = true) (hT : Tab w) :
    Calls Tryz.prog 56 #[dtv d u] w fun e w' => e = .returned (.string ⟨(TM.qtx d).toArray⟩) ∧ Went w w' := tquoted_any d w u h hq hT
theorem hdt_len {k n : Int} {s : List UInt8} {ps : List Int} (hn : b64 n) (hs : s.length ≤ 60) (hp : ps.length ≤ 24) (hq : ∀ q ∈ ps, b64 q) : (TM.hdt k n s ps).length ≤ 1100 := by
  have h1 := TM.loc_len hn
  have h2 := TM.prt_len n ps hq
  unfold TM.hdt
  repeat
    split
    · simp; try omega
  simp
theorem bnd_a {l h : List UInt8} {L z : Nat} (hl : l.length + 7000000 * (z + 1) ≤ 10000000000000) (_hh : h.length ≤ 1100) (hp : L ≤ 24) : (l ++ [(40 : UInt8)]).length + 40 * L + 200 ≤ 100000000000000 := by
  simp only [List.length_append, List.length_cons, List.length_nil]; omega
theorem bnd_b {l h : List UInt8} {z : Nat} (hl : l.length + 7000000 * (z + 1) ≤ 10000000000000) (hh : h.length ≤ 1100) : (l ++ [(40 : UInt8)] ++ h).length + 7000000 * z + 10 ≤ 10000000000000 := by
  simp only [List.length_append, List.length_cons, List.length_nil]; omega
theorem bnd_c {l h x : List UInt8} {z : Nat} (hl : l.length + 7000000 * (z + 1) ≤ 10000000000000) (hh : h.length ≤ 1100) (hx : x.length ≤ 6000000 * z) : (l ++ [(40 : UInt8)] ++ h ++ x).length + [(41 : UInt8)].length ≤ 100000000000000 := by
  simp only [List.length_append, List.length_cons, List.length_nil]; omega
set_option maxRecDepth 100000 in
set_option maxHeartbeats 4000000 in
theorem tw_one (n : Int) (s : List UInt8) (ps : List Int) (d : RM.Dm) (ks : Tl) (_hR : ∀ i x, ks.at_ i = some x → TwOk x) : TwOk ⟨1, n, s, ps, d, ks⟩ := by
  intro W0 w up ui uk B p v l hT h1 h2 hb hl
  obtain ⟨P3, p3, rfl⟩ := hT.p.read
  obtain ⟨I7, q7, rfl⟩ := hT.d.read
  obtain ⟨A1, c1, rfl⟩ := hT.k.read
  unfold tmv
  simp only at hl ⊢
  have hba : Below w.heap.size w (w.alloc (.cells #[.int .i64 1, .int .i64 n, .string ⟨s.toArray⟩, .slice P3 ps.length p3, .int .i64 d.k, .int .i64 d.n, .string ⟨d.s.toArray⟩, .slice I7 d.is.len q7, .slice A1 ks.len c1] 28)) := went_alloc _ _
  have hM := Lies.made w 28 #[.int .i64 1, .int .i64 n, .string ⟨s.toArray⟩, .slice P3 ps.length p3, .int .i64 d.k, .int .i64 d.n, .string ⟨d.s.toArray⟩, .slice I7 d.is.len q7, .slice A1 ks.len c1]
  have hb1 := Lib.hid (hb.grown hba)
  have hca := Lib.hid (Ch.of_below (B := B) (p := p) hba)
  have hw0 : W0.heap.size ≤ w.heap.size := hb.below.size
  have hpp := hb.wt.lt.2
  have hQ := Lib.hid (quoted1_any d _ _ (hT.d _ hb1.out.below) (h1.d rfl) hb1.out.tabNow)
  have hql := TM.qtx_len (h1.d rfl)
  have e : TM.ttx ⟨1, n, s, ps, d, ks⟩ = TM.qtx d := by simp [TM.ttx, TM.tx1]
  rw [e]
  simp only at hql
  have hbn : l.length + (TM.qtx d).length ≤ 100000000000000 := by omega
  have hbn' := Lib.hid hbn
  generalize TM.qtx d = t at hQ hbn' ⊢
  unfold dtv at hQ
  generalize ps.length = L3 at hM hb1 hca hQ ⊢
  generalize ks.len = N at hM hb1 hca hQ ⊢
  generalize d.is.len = L7 at hM hb1 hca hQ ⊢
  clear hT h1 h2 hb hba _hR hql e hbn hl
  go_enter Tryz.func37, Tryz.ntmps37
  go_wp2_with fail
  go_at_call 56
  refine hQ.out.mono ?_
  rintro e w3 ⟨rfl, hb3⟩
  have G3 := hb1.out.grown hb3
  have hc3 := Lib.hid (hca.out.trans (Ch.of_below hb3))
  clear hb3
  go_wp2_with fail
  go_at_call 55
  refine (G3.put t hbn'.out).mono ?_
  rintro e w4 ⟨rfl, hw4, hc4⟩
  have hc5 := Lib.hid (hc3.out.trans hc4)
  have hw5 := Lib.hid hw4
  clear hc4 hw4
  go_wp2_with fail
  go_end0
  exact ⟨rfl, hw5.out, hc5.out⟩
set_option maxRecDepth 100000 in
set_option maxHeartbeats 4000000 in
theorem tw_two (n : Int) (s : List UInt8) (ps : List Int) (d : RM.Dm) (ks : Tl) (_hR : ∀ i x, ks.at_ i = some x → TwOk x) : TwOk ⟨2, n, s, ps, d, ks⟩ := by
  intro W0 w up ui uk B p v l hT h1 h2 hb hl
  obtain ⟨P3, p3, rfl⟩ := hT.p.read
  obtain ⟨I7, q7, rfl⟩ := hT.d.read
  obtain ⟨A1, c1, rfl⟩ := hT.k.read
  unfold tmv
  simp only at hl ⊢
  have hba : Below w.heap.size w (w.alloc (.cells #[.int .i64 2, .int .i64 n, .string ⟨s.toArray⟩, .slice P3 ps.length p3, .int .i64 d.k, .int .i64 d.n, .string ⟨d.s.toArray⟩, .slice I7 d.is.len q7, .slice A1 ks.len c1] 28)) := went_alloc _ _
  have hM := Lies.made w 28 #[.int .i64 2, .int .i64 n, .string ⟨s.toArray⟩, .slice P3 ps.length p3, .int .i64 d.k, .int .i64 d.n, .string ⟨d.s.toArray⟩, .slice I7 d.is.len q7, .slice A1 ks.len c1]
  have hb1 := Lib.hid (hb.grown hba)
  have hca := Lib.hid (Ch.of_below (B := B) (p := p) hba)
  have hw0 : W0.heap.size ≤ w.heap.size := hb.below.size
  have hpp := hb.wt.lt.2
  have hlc := Lib.hid (local_any n h1.n _ hb1.out.tabNow)
  have hlo := TM.loc_len h1.n
  have e : TM.ttx ⟨2, n, s, ps, d, ks⟩ = TM.loc n := by simp [TM.ttx, TM.tx1]
  rw [e]
  simp only at hlo
  have hbn : l.length + (TM.loc n).length ≤ 100000000000000 := by omega
  have hbn' := Lib.hid hbn
  generalize TM.loc n = t at hlc hbn' ⊢
  generalize ps.length = L3 at hM hb1 hca hlc ⊢
  generalize ks.len = N at hM hb1 hca hlc ⊢
  generalize d.is.len = L7 at hM hb1 hca hlc ⊢
  clear hT h1 h2 hb hba _hR hlo e hbn hl
  go_enter Tryz.func37, Tryz.ntmps37
  go_wp2_with fail
  go_at_call 57
  refine hlc.out.mono ?_
  rintro e w3 ⟨rfl, hb3⟩
  have hM3 := hM.below hb3 hM.lt
  have x2 := hM3.cell 2
  have f2 := hM3.free 2
  have hlt := hM3.lt
  have G3 := hb1.out.grown hb3
  have G4 := Lib.hid (G3.stored_box hM3 (by decide) 2 (.string ⟨t.toArray⟩))
  simp only [List.getElem?_cons_succ, List.getElem?_cons_zero] at x2
  have hc3 := Lib.hid (hca.out.trans (Ch.of_below hb3))
  clear hb3 G3
  go_wp2_with fail
  go_at_call 55
  refine (G4.out.put t hbn'.out).mono ?_
  rintro e w5 ⟨rfl, hw5, hc5⟩
  have hw6 := Lib.hid hw5
  have hc6 := Lib.hid hc5
  clear hw5 hc5
  go_wp2_with fail
  go_end0
  exact ⟨rfl, hw6.out, (hc3.out.box (Nat.le_refl _) 2 _).trans hc6.out⟩
set_option maxRecDepth 100000 in
set_option maxHeartbeats 4000000 in
theorem tw_three (n : Int) (s : List UInt8) (ps : List Int) (d : RM.Dm) (ks : Tl) (_hR : ∀ i x, ks.at_ i = some x → TwOk x) : TwOk ⟨3, n, s, ps, d, ks⟩ := by
  intro W0 w up ui uk B p v l hT h1 h2 hb hl
  obtain ⟨P3, p3, rfl⟩ := hT.p.read
  obtain ⟨I7, q7, rfl⟩ := hT.d.read
  obtain ⟨A1, c1, rfl⟩ := hT.k.read
  unfold tmv
  simp only at hl ⊢
  have hba : Below w.heap.size w (w.alloc (.cells #[.int .i64 3, .int .i64 n, .string ⟨s.toArray⟩, .slice P3 ps.length p3, .int .i64 d.k, .int .i64 d.n, .string ⟨d.s.toArray⟩, .slice I7 d.is.len q7, .slice A1 ks.len c1] 28)) := went_alloc _ _
  have hM := Lies.made w 28 #[.int .i64 3, .int .i64 n, .string ⟨s.toArray⟩, .slice P3 ps.length p3, .int .i64 d.k, .int .i64 d.n, .string ⟨d.s.toArray⟩, .slice I7 d.is.len q7, .slice A1 ks.len c1]
  have hb1 := Lib.hid (hb.grown hba)
  have hca := Lib.hid (Ch.of_below (B := B) (p := p) hba)
  have hw0 : W0.heap.size ≤ w.heap.size := hb.below.size
  have hpp := hb.wt.lt.2
  have e : TM.ttx ⟨3, n, s, ps, d, ks⟩ = s := by simp [TM.ttx, TM.tx1]
  rw [e]
  have hss := h1.s
  simp only at hss
  have hbn : l.length + s.length ≤ 100000000000000 := by omega
  have hbn' := Lib.hid hbn
  generalize ps.length = L3 at hM hb1 hca ⊢
  generalize ks.len = N at hM hb1 hca ⊢
  generalize d.is.len = L7 at hM hb1 hca ⊢
  clear hT h1 h2 hb hba _hR e hbn hl hss
  go_enter Tryz.func37, Tryz.ntmps37
  go_wp2_with fail
  go_at_call 55
  refine (hb1.out.put s hbn'.out).mono ?_
  rintro e w4 ⟨rfl, hw4, hc4⟩
  have hc5 := Lib.hid (hca.out.trans hc4)
  have hw5 := Lib.hid hw4
  clear hc4 hw4
  go_wp2_with fail
  go_end0
  exact ⟨rfl, hw5.out, hc5.out⟩
set_option maxRecDepth 100000 in
set_option maxHeartbeats 4000000 in
theorem tw_other (k : Int) (k1 : ¬ k = 1) (k2 : ¬ k = 2) (k3 : ¬ k = 3) (n : Int) (s : List UInt8) (ps : List Int) (d : RM.Dm) (ks : Tl) (hR : ∀ i x, ks.at_ i = some x → TwOk x) : TwOk ⟨k, n, s, ps, d, ks⟩ := by
  intro W0 w up ui uk B p v l hT h1 h2 hb hl
  obtain ⟨P3, p3, rfl⟩ := hT.p.read
  obtain ⟨I7, q7, rfl⟩ := hT.d.read
  obtain ⟨A1, c1, rfl⟩ := hT.k.read
  unfold tmv
  simp only at hl ⊢
  have hba : Below w.heap.size w (w.alloc (.cells #[.int .i64 k, .int .i64 n, .string ⟨s.toArray⟩, .slice P3 ps.length p3, .int .i64 d.k, .int .i64 d.n, .string ⟨d.s.toArray⟩, .slice I7 d.is.len q7, .slice A1 ks.len c1] 28)) := went_alloc _ _
  have hM := Lies.made w 28 #[.int .i64 k, .int .i64 n, .string ⟨s.toArray⟩, .slice P3 ps.length p3, .int .i64 d.k, .int .i64 d.n, .string ⟨d.s.toArray⟩, .slice I7 d.is.len q7, .slice A1 ks.len c1]
  have hb1 := Lib.hid (hb.grown hba)
  have hca := Lib.hid (Ch.of_below (B := B) (p := p) hba)
  have hw0 : W0.heap.size ≤ w.heap.size := hb.below.size
  have hpp := hb.wt.lt.2
  have e : TM.ttx ⟨k, n, s, ps, d, ks⟩ = 40 :: (TM.hdt k n s ps ++ (TM.txs true ks ++ [41])) := by simp [TM.ttx, TM.tx1, k1, k2, k3]
  rw [e]
  have hps := h1.p
  simp only at hps
  have hhl := hdt_len (k := k) h1.n h1.s h1.p h1.q
  have hxl := txs_len true ks h2
  have hH := Lib.hid (fun (w' : World) (v' : Value) (l' : List UInt8) (hb' : Base W0 w' B p v' l') (hl' : l'.length + 40 * ps.length + 200 ≤ 100000000000000) => head_any k n s ps P3 p3 d.k d.n ⟨d.s.toArray⟩ (.slice I7 d.is.len q7) (.slice A1 ks.len c1) W0 w' B p v' l' hT.p h1.q h1.n h1.s hb' hl')
  have hK := Lib.hid (fun (w' : World) (v' : Value) (l' : List UInt8) (hb' : Base W0 w' B p v' l') (hl' : l'.length + 7000000 * TM.sz ks + 10 ≤ 10000000000000) => kids_any ks hR W0 w' _ B p v' l' hT.k h2 hb' hl')
  simp only at hhl
  have q1 := Lib.hid (bnd_a hl hhl hps)
  have q2 := Lib.hid (bnd_b hl hhl)
  have q3 := Lib.hid (bnd_c hl hhl hxl)
  have q0 := Lib.hid (show l.length + [(40 : UInt8)].length ≤ 100000000000000 by simp only [List.length_cons, List.length_nil]; omega)
  generalize ps.length = L3 at hM hb1 hca hH q1 ⊢
  generalize ks.len = N at hM hb1 hca hH hK ⊢
  generalize d.is.len = L7 at hM hb1 hca hH ⊢
  clear hT h1 h2 hb hba hR e hl hps hhl hxl
  go_enter Tryz.func37, Tryz.ntmps37
  go_wp2_with fail
  go_at_call 55
  refine (hb1.out.put [40] q0.out).mono ?_
  rintro e w3 ⟨rfl, ⟨v3, hw3⟩, hc3⟩
  have G3 := hb1.out.on hw3 hc3
  have hM3 := hM.ch (by decide) (by omega) hc3
  have z0 := hM3.cell 0
  have z1 := hM3.cell 1
  have z2 := hM3.cell 2
  have z3 := hM3.cell 3
  have z4 := hM3.cell 4
  have z5 := hM3.cell 5
  have z6 := hM3.cell 6
  have z7 := hM3.cell 7
  have z8 := hM3.cell 8
  simp only [List.getElem?_cons_succ, List.getElem?_cons_zero] at z0 z1 z2 z3 z4 z5 z6 z7 z8
  have hc4 := Lib.hid (hca.out.trans hc3)
  clear hc3 hw3
  go_wp2_with fail
  go_at_call 58
  refine (hH.out _ _ _ G3 q1.out).mono ?_
  rintro e w5 ⟨rfl, ⟨v5, hw5⟩, hc5⟩
  have G5 := G3.on hw5 hc5
  have hM5 := hM3.ch (by decide) (by omega) hc5
  have y8 := hM5.cell 8
  simp only [List.getElem?_cons_succ, List.getElem?_cons_zero] at y8
  have hc6 := Lib.hid (hc4.out.trans hc5)
  clear hc5 hw5 z0 z1 z2 z3 z4 z5 z6 z7 z8
  go_wp2_with fail
  go_at_call 59
  refine (hK.out _ _ _ G5 q2.out).mono ?_
  rintro e w7 ⟨rfl, ⟨v7, hw7⟩, hc7⟩
  have G7 := G5.on hw7 hc7
  have hc8 := Lib.hid (hc6.out.trans hc7)
  clear hc7 hw7
  go_wp2_with fail
  go_at_call 55
  refine (G7.put [41] q3.out).mono ?_
  rintro e w9 ⟨rfl, hw9, hc9⟩
  have hwx := Lib.hid hw9
  have hcx := Lib.hid (hc8.out.trans hc9)
  clear hw9 hc9
  go_wp2_with fail
  go_end0
  refine ⟨rfl, ?_, hcx.out⟩
  have h := hwx.out
  simpa [List.append_assoc] using h
theorem tw_step (k n : Int) (s : List UInt8) (ps : List Int) (d : RM.Dm) (ks : Tl) (hR : ∀ i x, ks.at_ i = some x → TwOk x) : TwOk ⟨k, n, s, ps, d, ks⟩ := by
  by_cases k1 : k = 1
  · subst k1; exact tw_one n s ps d ks hR
  by_cases k2 : k = 2
  · subst k2; exact tw_two n s ps d ks hR
  by_cases k3 : k = 3
  · subst k3; exact tw_three n s ps d ks hR
  exact tw_other k k1 k2 k3 n s ps d ks hR
theorem write1_any (t : Tm) : TwOk t := Tl.all_one TwOk tw_step t
end Go.Proofs.YtpiekdcbjkgipaaGreatDoor

/- slices.Clone of terms, of data, of ints: a row of one's own, of the same cells. -/
namespace Go.Proofs.YtpiekdcbjkgipaaGreatDoor
open Go.ChangeShapes Go.WideShapes Go.ChangeAt Go.RowKit Go.Deep
open TM (Tl Tm)

/-- a row's cells, as they lie where they can be read -/
def Raw (w : World) (A : Option Addr) (n sz : Nat) (cs : List Value) : Prop := cs.length = n * sz ∧ (A = none → n = 0) ∧ (∀ a, A = some a → ∀ j u, cs[j]? = some u → w.cell? (a.add j) = some u) ∧ ∀ u ∈ cs, u.oneCell' = true

set_option maxRecDepth 100000 in
set_option maxHeartbeats 2000000 in
theorem cloneT (A : Option Addr) (n c : Nat) (cs : List Value) (w : World) (h : Raw w A n 9 cs) (hn : n ≤ 1000000) :
    Calls Tryz.prog 54 #[.slice A n c] w fun e w' => ∃ v', e = .returned v' ∧ w'.ownsRow w.heap.size 28 9 v' n cs ∧ Below w.heap.size w w' := by
  obtain ⟨h1, h2, h3, h4⟩ := h
  cases A with
  | none =>
    obtain rfl := h2 rfl
    have hcs : cs = [] := List.eq_nil_of_length_eq_zero (by simpa using h1)
    subst hcs
    have hq : ∀ (w : World) (a : Option Addr) (n c n' c' : Nat), (binOp .eql 26 (.slice a n c) (.slice none n' c')).run Tryz.prog w = .ok (.bool a.isNone) w := fun w a n c n' c' => Lib.run_eql_slice_nil w _ _ a n c n' c' Tryz.underlying26
    clear h1 h2 h3 h4 hn
    go_enter Tryz.func54, Tryz.ntmps54
    go_wp2
    go_ret
    exact ⟨_, rfl, own_none _ _ _ _, Below.refl _ _⟩
  | some a =>
    obtain ⟨i0, hi, hz0, hz1, hz2⟩ := info_parts Tryz.infoTerm
    have hq : ∀ (w : World) (a : Option Addr) (n c n' c' : Nat), (binOp .eql 26 (.slice a n c) (.slice none n' c')).run Tryz.prog w = .ok (.bool a.isNone) w := fun w a n c n' c' => Lib.run_eql_slice_nil w _ _ a n c n' c' Tryz.underlying26
    have h1' := Lib.hid h1
    have h3' := Lib.hid (h3 a rfl)
    have h4' := Lib.hid h4
    have hi' := Lib.hid hi
    have hz0' := Lib.hid hz0
    have hz1' := Lib.hid hz1
    have hz2' := Lib.hid hz2
    clear h1 h2 h3 h4 hi hz0 hz1 hz2
    go_enter Tryz.func54, Tryz.ntmps54
    go_wp2_with (
      at_builtin
      refine _root_.Go.wpList_append_own _ rfl _ _ 26 rfl w.heap.size 28 i0 _ 9 136 Tryz.underlying26 hi'.out hz0'.out hz1'.out hz2'.out (by rfl) (by decide) _ _ _ rfl (World.ownsRow_made w #[] 0 (Nat.le_refl _) (Nat.zero_le _) (by simp)) a n c cs rfl h1'.out ?qc2 h4'.out (by unfold maxLen; omega) (by omega) (by simp) ?qk)
    case qc2 => exact fun j u hj => Lib.cell?_alloc_some _ (h3'.out j u hj)
    case qk =>
      intro v' w1 hown hgrow hnil
      clear hnil
      have hb : Below w.heap.size w w1 := ((Below.refl _ w).alloc (Nat.le_refl _) _).grown hgrow (by simp) (by intro k hk; simp [Value.ownBlock] at hk; omega)
      have hown' := Lib.hid hown
      clear hown hgrow
      go_wp2
      go_ret
      exact ⟨v', rfl, by simpa using hown'.out, hb⟩

set_option maxRecDepth 100000 in
set_option maxHeartbeats 2000000 in
theorem cloneI (A : Option Addr) (n c : Nat) (cs : List Value) (w : World) (h : Raw w A n 1 cs) (hn : n ≤ 1000000) :
    Calls Tryz.prog 80 #[.slice A n c] w fun e w' => ∃ v', e = .returned v' ∧ w'.ownsRow w.heap.size 3 1 v' n cs ∧ Below w.heap.size w w' := by
  obtain ⟨h1, h2, h3, h4⟩ := h
  cases A with
  | none =>
    obtain rfl := h2 rfl
    have hcs : cs = [] := List.eq_nil_of_length_eq_zero (by simpa using h1)
    subst hcs
    have hq : ∀ (w : World) (a : Option Addr) (n c n' c' : Nat), (binOp .eql 22 (.slice a n c) (.slice none n' c')).run Tryz.prog w = .ok (.bool a.isNone) w := fun w a n c n' c' => Lib.run_eql_slice_nil w _ _ a n c n' c' Tryz.underlying22
    clear h1 h2 h3 h4 hn
    go_enter Tryz.func80, Tryz.ntmps80
    go_wp2
    go_ret
    exact ⟨_, rfl, own_none _ _ _ _, Below.refl _ _⟩
  | some a =>
    obtain ⟨i0, hi, hz0, hz1, hz2⟩ := info_parts Tryz.infoInt
    have hq : ∀ (w : World) (a : Option Addr) (n c n' c' : Nat), (binOp .eql 22 (.slice a n c) (.slice none n' c')).run Tryz.prog w = .ok (.bool a.isNone) w := fun w a n c n' c' => Lib.run_eql_slice_nil w _ _ a n c n' c' Tryz.underlying22
    have h1' := Lib.hid h1
    have h3' := Lib.hid (h3 a rfl)
    have h4' := Lib.hid h4
    have hi' := Lib.hid hi
    have hz0' := Lib.hid hz0
    have hz1' := Lib.hid hz1
    have hz2' := Lib.hid hz2
    clear h1 h2 h3 h4 hi hz0 hz1 hz2
    go_enter Tryz.func80, Tryz.ntmps80
    go_wp2_with (
      at_builtin
      refine _root_.Go.wpList_append_own _ rfl _ _ 22 rfl w.heap.size 3 i0 _ 1 8 Tryz.underlying22 hi'.out hz0'.out hz1'.out hz2'.out (by rfl) (by decide) _ _ _ rfl (World.ownsRow_made w #[] 0 (Nat.le_refl _) (Nat.zero_le _) (by simp)) a n c cs rfl h1'.out ?qc2 h4'.out (by unfold maxLen; omega) (by omega) (by simp) ?qk)
    case qc2 => exact fun j u hj => Lib.cell?_alloc_some _ (h3'.out j u hj)
    case qk =>
      intro v' w1 hown hgrow hnil
      clear hnil
      have hb : Below w.heap.size w w1 := ((Below.refl _ w).alloc (Nat.le_refl _) _).grown hgrow (by simp) (by intro k hk; simp [Value.ownBlock] at hk; omega)
      have hown' := Lib.hid hown
      clear hown hgrow
      go_wp2
      go_ret
      exact ⟨v', rfl, by simpa using hown'.out, hb⟩
end Go.Proofs.YtpiekdcbjkgipaaGreatDoor

/- Package term: bind gives the next numbers to the locals of a procedure. -/
namespace Go.Proofs.YtpiekdcbjkgipaaGreatDoor
open Go.ChangeShapes Go.WideShapes Go.ChangeAt Go.RowKit Go.Deep
open TM (Tl Tm)

namespace TM
theorem pl_in {a b : List Int} {n : Int} (h : a.contains n = true) : pl (a ++ b) n = pl a n := by
  unfold pl
  have h2 : n ∈ a := by simpa using h
  rw [h, if_pos rfl, if_pos (by simp [h2]), List.idxOf_append, if_pos h2]
theorem pl_new {a b : List Int} {n : Int} (h : a.contains n = false) : pl (a ++ n :: b) n = a.length + 1 := by
  unfold pl
  have h2 : n ∉ a := by simpa using h
  rw [if_pos (by simp), List.idxOf_append, if_neg h2, List.idxOf_cons_self]
  simp
theorem pl_none {a : List Int} {n : Int} (h : a.contains n = false) : pl a n = 0 := by unfold pl; rw [h]; simp
theorem pl_some {a : List Int} {n : Int} (h : a.contains n = true) : 1 ≤ pl a n ∧ pl a n ≤ a.length := by
  unfold pl
  have h2 : n ∈ a := by simpa using h
  rw [if_pos h]
  have := List.idxOf_lt_length_of_mem h2
  omega
theorem pl_push {a : List Int} {p : Int} (h : a.contains p = false) : setS (pl a) p (a.length + 1) = pl (a ++ [p]) := by
  funext x
  unfold setS
  by_cases e : x = p
  · subst e
    rw [if_pos rfl, pl_new h]
  · rw [if_neg e]
    cases hx : a.contains x
    · rw [pl_none hx, pl_none]
      simp at hx ⊢
      exact ⟨hx, e⟩
    · rw [pl_in hx]
theorem upd_at (l : List Int) (f : Int → Int) {j : Nat} {x : Int} (h : l[j]? = some x) : ((l.take j).map f ++ l.drop j).set j (f x) = (l.take (j + 1)).map f ++ l.drop (j + 1) := by
  obtain ⟨hj, hx⟩ := List.getElem?_eq_some_iff.1 h
  have hl : ((l.take j).map f).length = j := by simp; omega
  rw [List.drop_eq_getElem_cons hj, List.set_append_right _ _ (by omega), hl, Nat.sub_self, List.set_cons_zero, List.take_add_one, h]
  simp
end TM
theorem PIn.cell_at {w : World} {g n c : Nat} {l : List Int} (h : PIn w (.slice (some ⟨g, 0, none⟩) n c) l) {j : Nat} {x : Int} (hx : l[j]? = some x) : w.cell? ⟨g, j, none⟩ = some (.int .i64 x) := by
  obtain ⟨b, o, e, _, hc⟩ := h.cell hx
  injection e with e
  injection e with e1 e2
  subst e1 e2
  rwa [Nat.zero_add] at hc
theorem PIn.raw {w : World} {A : Option Addr} {n c : Nat} {l : List Int} (h : PIn w (.slice A n c) l) : Raw w A n 1 (l.map (.int .i64)) := by
  obtain ⟨A', c', e, hl, b, o, h1, h2⟩ := h
  injection e with e1 e2 e3
  subst e1 e2
  refine ⟨by simp, fun hn => ?_, fun a ha j u hu => ?_, fun u hu => ?_⟩
  · by_cases h0 : 0 < l.length
    · have := (h1 h0).1
      rw [hn] at this; cases this
    · omega
  · rw [List.getElem?_map] at hu
    obtain ⟨x, hx, rfl⟩ := Option.map_eq_some_iff.1 hu
    have hj := (List.getElem?_eq_some_iff.1 hx).1
    have := (h1 (by omega)).1
    rw [ha] at this
    injection this with this
    subst this
    have := h2 j x hx
    rw [add_plain]
    exact this
  · obtain ⟨x, _, rfl⟩ := List.mem_map.1 hu
    rfl
def BindN (q : Nat) (met ps : List Int) (w : World) (e : Ending) (w' : World) : Prop :=
  ∃ v', e = .returned v' ∧ Own w' w.heap.size v' (ps.map (TM.pl (met ++ ps))) ∧ Im w' q (met.length + ps.length) (TM.pl (met ++ ps)) ∧ Turns (fun g => g = q) w w'
set_option maxRecDepth 100000 in
set_option maxHeartbeats 4000000 in
theorem bind_any (q : Nat) (met ps : List Int) (w0 w : World) (v : Value) (h : PIn w0 v ps) (hb : Below w0.heap.size w0 w) (hq : w0.heap.size ≤ q) (hI : Im w q met.length (TM.pl met)) (hf : TM.frs met ps = true) (h64 : ∀ p ∈ ps, b64 p) (hl : met.length + ps.length ≤ 1000000) :
    Calls Tryz.prog 53 #[.map (some q), v] w (BindN q met ps w) := by
  obtain ⟨A, c, rfl⟩ := h.read
  have hC := Lib.hid (cloneI A ps.length c (ps.map (.int .i64)) w (h.below hb).raw (by omega))
  obtain ⟨hnd, hnm⟩ := TM.frs_nodup met ps hf
  obtain ⟨L, hL⟩ : ∃ L, ps.length = L := ⟨_, rfl⟩
  rw [hL] at h hl hC
  have hL' := Lib.hid hL
  have h64' := Lib.hid h64
  have hI' := Lib.hid hI
  have hnd' := Lib.hid hnd
  have hnm' := Lib.hid hnm
  have hlt := hI.lt
  obtain ⟨M, hM⟩ : ∃ M, met.length = M := ⟨_, rfl⟩
  rw [hM] at hl
  have hM' := Lib.hid hM
  rw [show Value.slice A ps.length c = .slice A L c by rw [hL]]
  clear hL h64 hI hf hnd hnm hM
  go_enter Tryz.func53, Tryz.ntmps53
  go_wp2_with (
    go_at_call 80
    refine hC.out.mono ?_
    rintro e w1 ⟨v1, rfl, hown, hb1⟩
    have hI1 := Lib.hid (hI'.out.below hb1)
    have hT1 := Lib.hid (Turns.of_below hb1 (fun g => g = q))
    obtain ⟨B5, c5, rfl, -⟩ := own_read hown
    have hown' := Lib.hid hown
    clear hown hb1)
  go_loopw [12] (fun i wr => ∃ (j : Nat), j ≤ L ∧ i = .int .i64 j ∧ Own wr w.heap.size (.slice B5 L c5) ((ps.take j).map (TM.pl (met ++ ps)) ++ ps.drop j) ∧ Im wr q (M + j) (TM.pl (met ++ ps.take j)) ∧ Turns (fun g => g = q) w wr) (fun i _ => L - (intOf i).toNat)
  case atStart =>
    refine ⟨0, Nat.zero_le _, rfl, ?_, ?_, hT1.out⟩
    · simp only [List.take_zero, List.map_nil, List.nil_append, List.drop_zero]
      have := hown'.out
      unfold Own
      rw [hL'.out]
      exact this
    · simp only [List.take_zero, List.append_nil, Nat.add_zero, ← hM'.out]
      exact hI1.out
  case round =>
    obtain ⟨j, hj, rfl, hO, hI2, hT⟩ := hrel
    have hT' := Lib.hid hT
    clear hT hI1 hT1 hown'
    by_cases hjl : j < L
    · have hx : ps[j]? = some (ps[j]'(by rw [hL'.out]; exact hjl)) := List.getElem?_eq_getElem _
      obtain ⟨x, hxe⟩ : ∃ x, ps[j]'(by rw [hL'.out]; exact hjl) = x := ⟨_, rfl⟩
      rw [hxe] at hx
      obtain ⟨b, o, rfl, hb0, p0⟩ := h.cell hx
      have hbr := below_of_turns hb hT'.out hq
      have y0 : wr.cell? ⟨b, o + j, none⟩ = some (.int .i64 x) := (hbr.cell (p := ⟨b, o + j, none⟩) hb0).trans p0
      have x64 := h64'.out x (by rw [← hxe]; exact List.getElem_mem _)
      have hlo : ((ps.take j).map (TM.pl (met ++ ps)) ++ ps.drop j).length = L := by simp; rw [hL'.out]; omega
      obtain ⟨g, e5, hg1, hg2, hgc⟩ := hO.cell (j := j) (by rw [hlo]; exact hjl)
      subst e5
      have hqg : q ≠ g := by omega
      have hnx : (met ++ ps.take j).contains x = false := by
        have h1 := hnm'.out x (by rw [← hxe]; exact List.getElem_mem _)
        have h2 : x ∉ ps.take j := by
          intro hh
          obtain ⟨i, hi, hix⟩ := List.getElem_of_mem hh
          rw [List.getElem_take] at hix
          simp at hi
          have := (List.getElem_inj (h₀ := by omega) (h₁ := by rw [hL'.out]; exact hjl) hnd'.out).1 (hix.trans hxe.symm)
          omega
        simp at h1 h2 ⊢
        exact ⟨h1, h2⟩
      have htk : ps.take (j + 1) = ps.take j ++ [x] := by rw [List.take_add_one, hx]; rfl
      have hsp : ps = ps.take j ++ (x :: ps.drop (j + 1)) := by rw [← hxe, ← List.drop_eq_getElem_cons, List.take_append_drop]
      have hml : (met ++ ps.take j).length = M + j := by
        simp only [List.length_append, List.length_take]
        rw [hL'.out, hM'.out, Nat.min_eq_left hj]
      have hpx : TM.pl (met ++ ps) x = (M : Int) + j + 1 := by
        have := TM.pl_new (a := met ++ ps.take j) (b := ps.drop (j + 1)) hnx
        rw [List.append_assoc, ← hsp] at this
        rw [this, hml]
        simp
      have hln := hI2.len (t := 60) Tryz.underlying60 3
      have hz0 := TM.pl_none hnx
      have hO2 : Own (wr.setCell ⟨g, j, none⟩ (.int .i64 ((M : Int) + j + 1))) w.heap.size (.slice (some ⟨g, 0, none⟩) L c5) ((ps.take (j + 1)).map (TM.pl (met ++ ps)) ++ ps.drop (j + 1)) := by
        rw [← TM.upd_at ps (TM.pl (met ++ ps)) hx, hpx]
        unfold Own at hO ⊢
        rw [List.length_set, hlo, List.map_set]
        rw [hlo] at hO
        exact (hO.stored j _).1
      have hI3 := hI2.turns ((Turns.refl (fun k => k = g) wr).setCell (p := ⟨g, j, none⟩) (fun _ => rfl) (.int .i64 ((M : Int) + j + 1))) hqg
      have hT3 := hT'.out.setCell (p := ⟨g, j, none⟩) (fun h => by simp only at h; omega) (.int .i64 ((M : Int) + j + 1))
      obtain ⟨w4, hrun, hI4, hT4⟩ := hI3.put (t := 60) Tryz.underlying60 (by omega) x64 (k := (M : Int) + j + 1) ⟨by omega, by omega⟩ (by omega)
      rw [if_pos hz0, show ((M : Int) + j + 1) = ((met ++ ps.take j).length : Int) + 1 by rw [hml]; simp, TM.pl_push hnx, List.append_assoc, ← htk] at hI4
      have hO4 := Lib.hid (hO2.turns hT4 (fun k hk hh => hqg (by have e : some g = some k := hk; injection e with e; omega)))
      have hT5 := Lib.hid (hT3.then hT4 (fun _ _ h => h))
      have hI4' := Lib.hid hI4
      have fr : wr.frozen? ⟨g, j, none⟩ = false := by
        unfold Own at hO
        rw [hlo] at hO
        exact hO.frozenAt j
      have g1 : (wr.setCell ⟨g, j, none⟩ (.int .i64 ((M : Int) + j + 1))).cell? ⟨g, j, none⟩ = some (.int .i64 ((M : Int) + j + 1)) := by
        rw [hO2.pin.cell_at (j := j) (x := (M : Int) + j + 1) (by
          rw [← TM.upd_at ps (TM.pl (met ++ ps)) hx, hpx, List.getElem?_set_self (by rw [hlo]; exact hjl)])]
      simp only [Int.natCast_add] at hln
      clear hx hxe p0 hbr hlo hO hnx htk hsp hpx hz0 hO2 hI3 hT3 hI4 hT4 hI2 hml hb0 hC
      go_wp2_with fail
      go_roundw
      case rel => exact ⟨j + 1, by omega, by go_num, hO4.out, by rw [← Nat.add_assoc]; exact hI4'.out, hT5.out⟩
      case measure => simp [intOf]; omega
    · obtain rfl : j = L := by omega
      have ht : ps.take j = ps := by rw [← hL'.out]; exact List.take_length
      have hdr : ps.drop j = [] := by rw [← hL'.out]; exact List.drop_length
      rw [ht, hdr, List.append_nil] at hO
      rw [ht] at hI2
      have hO' := Lib.hid hO
      have hI2' := Lib.hid hI2
      clear hO hI2 ht hdr
      go_wp2_with fail
      go_ret
      exact ⟨_, rfl, hO'.out, by rw [hL'.out, hM'.out]; exact hI2'.out, hT'.out⟩
end Go.Proofs.YtpiekdcbjkgipaaGreatDoor

/- Package term: a term with the numbers that its locals get. -/
namespace Go.Proofs.YtpiekdcbjkgipaaGreatDoor
open Go.ChangeShapes Go.WideShapes Go.ChangeAt Go.RowKit Go.Deep
open TM (Tl Tm)

/-- cells of terms that can be read -/
def TRaw (w : World) : Tl → List Value → Prop
  | .nil, cs => cs = []
  | .cons k n s ps d ks r, cs => ∃ vp vi vk c2, cs = tcells ⟨k, n, s, ps, d, ks⟩ vp vi vk ++ c2 ∧ TmIn w ⟨k, n, s, ps, d, ks⟩ vp vi vk ∧ TRaw w r c2
theorem TRaw.len {w : World} : ∀ {t : Tl} {cs : List Value}, TRaw w t cs → cs.length = t.len * 9
  | .nil, cs, h => by rw [show cs = [] from h]; simp [Tl.len]
  | .cons _ _ _ _ _ _ r, cs, ⟨vp, vi, vk, c2, h1, h2, h3⟩ => by
    have := TRaw.len h3
    rw [h1, List.length_append, this, Tl.len]
    simp [tcells]; omega
theorem TRaw.one {w : World} : ∀ {t : Tl} {cs : List Value}, TRaw w t cs → ∀ u ∈ cs, u.oneCell' = true
  | .nil, cs, h => by rw [show cs = [] from h]; simp
  | .cons _ _ _ _ _ _ r, cs, ⟨vp, vi, vk, c2, h1, h2, h3⟩ => by
    intro u hu
    rw [h1] at hu
    obtain ⟨P, p, rfl⟩ := h2.p.read
    obtain ⟨I, q, rfl⟩ := h2.d.read
    obtain ⟨K, r, rfl⟩ := h2.k.read
    rcases List.mem_append.1 hu with hu | hu
    · simp only [tcells, List.mem_cons, List.not_mem_nil, or_false] at hu
      rcases hu with rfl | rfl | rfl | rfl | rfl | rfl | rfl | rfl | rfl <;> rfl
    · exact TRaw.one h3 u hu
theorem TInAt.raw {w : World} : ∀ {t : Tl} {b o : Nat}, TInAt w t b o → ∃ cs, TRaw w t cs ∧ ∀ j u, cs[j]? = some u → w.cell? ⟨b, o + j, none⟩ = some u
  | .nil, b, o, _ => ⟨[], rfl, fun j u h => by simp at h⟩
  | .cons k n s ps d ks r, b, o, ⟨h0, h1, h2, h3, ⟨v, h4, hp⟩, h5, h6, h7, ⟨u, h8, hi⟩, ⟨A, c, h9, hl, b', o', hA, hk⟩, hr⟩ => by
    obtain ⟨c2, g1, g2⟩ := TInAt.raw hr
    refine ⟨tcells ⟨k, n, s, ps, d, ks⟩ v u (.slice A ks.len c) ++ c2, ⟨v, u, _, c2, rfl, ⟨hp, hi, A, c, rfl, hl, b', o', hA, hk⟩, g1⟩, fun j x hx => ?_⟩
    by_cases hj : j < 9
    · rw [List.getElem?_append_left (by simp [tcells]; omega)] at hx
      rcases (show j = 0 ∨ j = 1 ∨ j = 2 ∨ j = 3 ∨ j = 4 ∨ j = 5 ∨ j = 6 ∨ j = 7 ∨ j = 8 by omega) with rfl | rfl | rfl | rfl | rfl | rfl | rfl | rfl | rfl
      all_goals
        simp [tcells] at hx
        subst hx
        assumption
    · rw [List.getElem?_append_right (by simp [tcells]; omega)] at hx
      have := g2 _ x hx
      rw [show o + 9 + (j - (tcells ⟨k, n, s, ps, d, ks⟩ v u (.slice A ks.len c)).length) = o + j by simp [tcells]; omega] at this
      exact this
theorem TIn.raw {w : World} {A : Option Addr} {n c : Nat} {t : Tl} (h : TIn w (.slice A n c) t) : ∃ cs, Raw w A n 9 cs ∧ TRaw w t cs := by
  obtain ⟨A', c', e, hl, b, o, h1, h2⟩ := h
  injection e with e1 e2 e3
  subst e1 e2
  obtain ⟨cs, g1, g2⟩ := h2.raw
  refine ⟨cs, ⟨g1.len, fun hn => ?_, fun a ha j u hu => ?_, g1.one⟩, g1⟩
  · by_cases h0 : 0 < t.len
    · have := h1 h0
      rw [hn] at this; cases this
    · omega
  · have hj := (List.getElem?_eq_some_iff.1 hu).1
    have hlen := g1.len
    have := h1 (by omega)
    rw [ha] at this
    injection this with this
    subst this
    have := g2 j u hu
    rw [add_plain]
    exact this
theorem TRaw.agr {w w' : World} (k : Agr (fun g => g < w.heap.size) w w') : ∀ {t : Tl} {cs : List Value}, TRaw w t cs → TRaw w' t cs
  | .nil, _, h => h
  | .cons _ _ _ _ _ _ _, _, ⟨vp, vi, vk, c2, h1, h2, h3⟩ => ⟨vp, vi, vk, c2, h1, h2.agr k, TRaw.agr k h3⟩
/-- the cells of the term at a place, and those behind it -/
theorem TRaw.at_ {w : World} : ∀ {t : Tl} {cs : List Value} {i : Nat} {x : Tm}, TRaw w (t.dr i) cs → t.at_ i = some x → ∃ vp vi vk c2, cs = tcells x vp vi vk ++ c2 ∧ TmIn w x vp vi vk ∧ TRaw w (t.dr (i + 1)) c2 := by
  intro t cs i x h hx
  rw [Tl.dr_at t i x hx] at h
  exact h
theorem below_drew1 {B : Nat} {a w : World} (h : Below B a w) : Below B a w.drew := ⟨h.os, h.tape, h.output, h.size, h.block⟩
theorem Im.drew {w : World} {q n : Nat} {S : Int → Int} (h : Im w q n S) : Im w.drew q n S := h.turns (Turns.refl (fun _ => False) w).drew (fun h => h)
/-- nine cells of a block are stored anew -/
def nine (w : World) (g o : Nat) (x0 x1 x2 x3 x4 x5 x6 x7 x8 : Value) : World :=
  ((((((((w.setCell ⟨g, o, none⟩ x0).setCell ⟨g, o + 1, none⟩ x1).setCell ⟨g, o + 2, none⟩ x2).setCell ⟨g, o + 3, none⟩ x3).setCell ⟨g, o + 4, none⟩ x4).setCell ⟨g, o + 5, none⟩ x5).setCell ⟨g, o + 6, none⟩ x6).setCell ⟨g, o + 7, none⟩ x7).setCell ⟨g, o + 8, none⟩ x8
theorem nine_turns {a w : World} {X : Nat → Prop} (h : Turns X a w) {g : Nat} (hg : g < a.heap.size → X g) (o : Nat) (x0 x1 x2 x3 x4 x5 x6 x7 x8 : Value) : Turns X a (nine w g o x0 x1 x2 x3 x4 x5 x6 x7 x8) :=
  ((((((((h.setCell (p := ⟨g, o, none⟩) hg _).setCell (p := ⟨g, o + 1, none⟩) hg _).setCell (p := ⟨g, o + 2, none⟩) hg _).setCell (p := ⟨g, o + 3, none⟩) hg _).setCell (p := ⟨g, o + 4, none⟩) hg _).setCell (p := ⟨g, o + 5, none⟩) hg _).setCell (p := ⟨g, o + 6, none⟩) hg _).setCell (p := ⟨g, o + 7, none⟩) hg _).setCell (p := ⟨g, o + 8, none⟩) hg _
theorem set_nine (l r : List Value) (y0 y1 y2 y3 y4 y5 y6 y7 y8 x0 x1 x2 x3 x4 x5 x6 x7 x8 : Value) (o : Nat) (ho : l.length = o) :
    (((((((((l ++ ([y0, y1, y2, y3, y4, y5, y6, y7, y8] ++ r)).set o x0).set (o + 1) x1).set (o + 2) x2).set (o + 3) x3).set (o + 4) x4).set (o + 5) x5).set (o + 6) x6).set (o + 7) x7).set (o + 8) x8 = (l ++ [x0, x1, x2, x3, x4, x5, x6, x7, x8]) ++ r := by
  subst ho
  have e : ∀ (m : List Value) (i : Nat) (x : Value), (l ++ m).set (l.length + i) x = l ++ m.set i x := fun m i x => by
    rw [List.set_append_right _ _ (by omega)]; congr 1; congr 1; omega
  have e0 := e ([y0, y1, y2, y3, y4, y5, y6, y7, y8] ++ r) 0 x0
  rw [Nat.add_zero] at e0
  rw [e0, e, e, e, e, e, e, e, e, List.append_assoc]
  rfl
theorem nine_row {w : World} {B g n c : Nat} {t : TypeId} {l r : List Value} {y0 y1 y2 y3 y4 y5 y6 y7 y8 : Value} {o : Nat} (h : w.ownsRow B t 9 (.slice (some ⟨g, 0, none⟩) n c) n (l ++ ([y0, y1, y2, y3, y4, y5, y6, y7, y8] ++ r))) (ho : l.length = o) (x0 x1 x2 x3 x4 x5 x6 x7 x8 : Value) :
    (nine w g o x0 x1 x2 x3 x4 x5 x6 x7 x8).ownsRow B t 9 (.slice (some ⟨g, 0, none⟩) n c) n ((l ++ [x0, x1, x2, x3, x4, x5, x6, x7, x8]) ++ r) := by
  rw [← set_nine l r y0 y1 y2 y3 y4 y5 y6 y7 y8 x0 x1 x2 x3 x4 x5 x6 x7 x8 o ho]
  exact ((((((((((h.stored o x0).1.stored (o + 1) x1).1.stored (o + 2) x2).1.stored (o + 3) x3).1.stored (o + 4) x4).1.stored (o + 5) x5).1.stored (o + 6) x6).1.stored (o + 7) x7).1.stored (o + 8) x8).1)
theorem nine_far {w : World} {h g : Nat} {t : TypeId} {cs : List Value} (hL : Lies w h t cs) (hne : h ≠ g) (o : Nat) (x0 x1 x2 x3 x4 x5 x6 x7 x8 : Value) : Lies (nine w g o x0 x1 x2 x3 x4 x5 x6 x7 x8) h t cs :=
  ((((((((hL.far (p := ⟨g, o, none⟩) hne _).far (p := ⟨g, o + 1, none⟩) hne _).far (p := ⟨g, o + 2, none⟩) hne _).far (p := ⟨g, o + 3, none⟩) hne _).far (p := ⟨g, o + 4, none⟩) hne _).far (p := ⟨g, o + 5, none⟩) hne _).far (p := ⟨g, o + 6, none⟩) hne _).far (p := ⟨g, o + 7, none⟩) hne _).far (p := ⟨g, o + 8, none⟩) hne _
theorem nine_res {w : World} {h : Nat} {t : TypeId} {y0 y1 y2 y3 y4 y5 y6 y7 y8 : Value} (hL : Lies w h t [y0, y1, y2, y3, y4, y5, y6, y7, y8]) (g : Nat) (e : g = h) (x0 x1 x2 x3 x4 x5 x6 x7 x8 : Value) : Lies (nine w g 0 x0 x1 x2 x3 x4 x5 x6 x7 x8) h t [x0, x1, x2, x3, x4, x5, x6, x7, x8] := by
  subst e
  exact (((((((((hL.stored 0 x0).stored 1 x1).stored 2 x2).stored 3 x3).stored 4 x4).stored 5 x5).stored 6 x6).stored 7 x7).stored 8 x8)
end Go.Proofs.YtpiekdcbjkgipaaGreatDoor
