/- Package scope: resolve, walked: each local in a term becomes a place, in its place. -/
import Derived.Test.YtpiekdcbjkgipaaGreatQ28
import Derived.Test.YtpiekdcbjkgipaaGreatQ19
import Derived.Deep.Cut
import Derived.Deep.CutRange
import Derived.Deep.CutBlock
namespace Go.Proofs.YtpiekdcbjkgipaaGreat
open Go.ChangeShapes Go.WideShapes Go.ChangeAt Go.RowKit Go.Deep
open TM (Tl Tm)

/-- a row that isn't empty, as its block -/
theorem row_block {w : World} {sz n c : Nat} {e : TypeId} {A : Option Addr} {xs : List Value} (h : w.ownsRow 0 e sz (.slice A n c) n xs) (h0 : 0 < n) :
    ∃ g rest, A = some ⟨g, 0, none⟩ ∧ Lies w g e (xs ++ rest) ∧ ∀ (w' : World) (ys : List Value), Lies w' g e (ys ++ rest) → ys.length = xs.length → w'.ownsRow 0 e sz (.slice A n c) n ys := by
  rcases h.2 with ⟨_, hn⟩ | ⟨g, cap, cur, hv, hb, hh, hc, hm, hs, ht⟩
  · omega
  · injection hv with e1 e2 e3
    subst e1; subst e3
    have hcl : cur.toList = xs ++ cur.toList.drop (n * sz) := by
      conv => lhs; rw [← List.take_append_drop (n * sz) cur.toList, ht]
    have hxl : xs.length = n * sz := h.1
    refine ⟨g, cur.toList.drop (n * sz), rfl, ?_, fun w' ys hl hy => ⟨by rw [hy, hxl], .inr ⟨g, c, (ys ++ cur.toList.drop (n * sz)).toArray, rfl, hb, hl, hc, hm, ?_, ?_⟩⟩⟩
    · unfold Lies
      rw [← hcl]
      exact hh
    · have : cur.size = cur.toList.length := by simp
      rw [hcl, List.length_append] at this
      simp only [List.size_toArray, List.length_append]
      omega
    · rw [← hxl, ← hy]
      simp
/-- cells of a block amid others -/
theorem mid_cell {w : World} {g i : Nat} {e : TypeId} {pre cs post : List Value} {u : Value} (h : Lies w g e (pre ++ (cs ++ post))) (hi : cs[i]? = some u) : w.cell? ⟨g, pre.length + i, none⟩ = some u := by
  rw [h.cell, List.getElem?_append_right (by omega), Nat.add_sub_cancel_left, List.getElem?_append_left (List.getElem?_eq_some_iff.1 hi).1, hi]
theorem mid_set {w : World} {g : Nat} {e : TypeId} {pre post : List Value} {c0 c1 c2 c3 c4 c5 c6 c7 c8 u : Value} (h : Lies w g e (pre ++ ([c0, c1, c2, c3, c4, c5, c6, c7, c8] ++ post))) : Lies (w.setCell ⟨g, pre.length + 1, none⟩ u) g e (pre ++ ([c0, u, c2, c3, c4, c5, c6, c7, c8] ++ post)) := by
  have := h.stored (pre.length + 1) u
  rw [List.set_append_right _ _ (by omega), Nat.add_sub_cancel_left] at this
  exact this
def RvN (w : World) (D S : Nat → Prop) (q g : Nat) (v vp vi vk : Value) (pre post : List Value) (R : List (List Int)) (H : List (Nat × Nat)) (t : Tm) (e : Ending) (w' : World) : Prop :=
  e = .returned (.tuple #[]) ∧ ∃ v', Lies w' g 28 (pre ++ (tcells (SC.rs1 R t) vp vi vk ++ post)) ∧ TmOwn w' D S (SC.rs1 R t) vp vi vk ∧ Hs w' q v' (H ++ SC.hm1 R.length t) ∧ (∀ b, v'.ownBlock = some b → v.ownBlock = some b ∨ w.heap.size ≤ b) ∧ Turns (fun b => b = q ∨ v.ownBlock = some b ∨ b = g ∨ S b) w w'
def RvOk (t : Tm) : Prop := ∀ (w : World) (D S : Nat → Prop) (q g o : Nat) (v vp vi vk : Value) (pre post : List Value) (R : List (List Int)) (H : List (Nat × Nat)) (bd : List Int),
  Lies w g 28 (pre ++ (tcells t vp vi vk ++ post)) → pre.length = o → TmOwn w D S t vp vi vk → Hs w q v H →
  (∀ b, S b → b < w.heap.size ∧ b ≠ q ∧ b ≠ g ∧ v.ownBlock ≠ some b ∧ ¬ D b) → (∀ b, D b → b < w.heap.size ∧ b ≠ q ∧ b ≠ g ∧ v.ownBlock ≠ some b) →
  SC.HOk R H → (∀ x ∈ bd, ∃ r ∈ R, x ∈ r) → TM.ok1 bd t = true → t.ps ++ TM.prs t.ks = SC.cnt (H.length + 1) (t.ps ++ TM.prs t.ks).length →
  R.length + TM.hi t.ks ≤ 300 → H.length + (t.ps ++ TM.prs t.ks).length ≤ 100000 → TM.sz t.ks ≤ 5000 →
  Calls Tryz.prog 22 #[.pointer (some ⟨q, 0, none⟩), .pointer (some ⟨g, o, none⟩), .int .i64 (R.length : Int)] w (RvN w D S q g v vp vi vk pre post R H t)
theorem rtl_app2 (bd : List Int) : ∀ a b : Tl, TM.rtl bd (a.app b) = (TM.rtl bd a && TM.rtl bd b)
  | .nil, b => by simp [Tl.app, TM.rtl]
  | .cons k n s ps d ks r, b => by rw [Tl.app, TM.rtl, TM.rtl, rtl_app2 bd r b]; simp [Bool.and_assoc]
theorem rtl_tk {bd : List Int} {d : Tl} (h : TM.rtl bd d = true) (j : Nat) : TM.rtl bd (d.tk j) = true := by
  rw [← Tl.tk_dr d j, rtl_app2, Bool.and_eq_true] at h
  exact h.1
/-- all that lies in memory ahead of the kid j: the kids before it are resolved -/
structure Rl (D S : Nat → Prop) (q g : Nat) (vp vi vk : Value) (pre post : List Value) (R : List (List Int)) (H : List (Nat × Nat)) (t : Tm) (w : World) (v : Value) (j : Nat) (v1 : Value) (wr : World) : Prop where
  box : Lies wr g 28 (pre ++ (tcells t vp vi vk ++ post))
  hs : Hs wr q v1 (H ++ SC.hms R.length (t.ks.tk j))
  own : ∀ b, v1.ownBlock = some b → v.ownBlock = some b ∨ w.heap.size ≤ b
  ps : Own wr 0 vp t.ps
  data : InD wr D vi t.d.is
  row : ∃ (Sd Sr : Nat → Prop) (csd csr : List Value), wr.ownsRow 0 28 9 vk t.ks.len (csd ++ csr) ∧ TAt wr D (SC.rsl R (t.ks.tk j)) Sd csd ∧ TAt wr D (t.ks.dr j) Sr csr ∧ (∀ b, Sd b → S b ∧ vk.ownBlock ≠ some b ∧ vp.ownBlock ≠ some b) ∧ (∀ b, Sr b → S b ∧ vk.ownBlock ≠ some b ∧ vp.ownBlock ≠ some b) ∧ ∀ b, Sd b → Sr b → False
  turns : Turns (fun b => b = q ∨ v.ownBlock = some b ∨ b = g ∨ S b) w wr
set_option maxHeartbeats 2000000 in
theorem Rl.call {D S : Nat → Prop} {q g : Nat} {vp vi : Value} {pre post : List Value} {R : List (List Int)} {H : List (Nat × Nat)} {t : Tm} {w : World} {v : Value} {j : Nat} {v1 : Value} {wr : World} {A1 : Option Addr} {N c1 : Nat} {bd : List Int} {x : Tm}
    (h : Rl D S q g vp vi (.slice A1 N c1) pre post R H t w v j v1 wr) (hR : RvOk x) (hN : t.ks.len = N) (hx : t.ks.at_ j = some x)
    (hS : ∀ b, S b → b < w.heap.size ∧ b ≠ q ∧ b ≠ g ∧ v.ownBlock ≠ some b ∧ ¬ D b) (hD : ∀ b, D b → b < w.heap.size ∧ b ≠ q ∧ b ≠ g ∧ v.ownBlock ≠ some b)
    (hkS : ∀ b, (Value.slice A1 N c1).ownBlock = some b → S b) (hO : SC.HOk R H) (hbd : ∀ x ∈ bd, ∃ r ∈ R, x ∈ r) (hrt : TM.rtl bd t.ks = true) (hcnt : TM.prs t.ks = SC.cnt (H.length + 1) (TM.prs t.ks).length)
    (hhi : R.length + TM.hi t.ks ≤ 301) (hlen : H.length + (TM.prs t.ks).length ≤ 100000) (hsz : TM.sz t.ks ≤ 5000) :
    ∃ gk, A1 = some ⟨gk, 0, none⟩ ∧ Calls Tryz.prog 22 #[.pointer (some ⟨q, 0, none⟩), .pointer (some ⟨gk, j * 9, none⟩), .int .i64 (R.length : Int)] wr fun e w' => e = .returned (.tuple #[]) ∧ ∃ v2, Rl D S q g vp vi (.slice A1 N c1) pre post R H t w v (j + 1) v2 w' := by
  obtain ⟨hbox, hhs, hown, hps, hdata, ⟨Sd, Sr, csd, csr, hrow, hAd, hAr, hSd, hSr, hdis⟩, hT⟩ := h
  have hjl : j < t.ks.len := by
    rcases Nat.lt_or_ge j t.ks.len with h | h
    · exact h
    · have h2 := Tl.dr_at t.ks j x hx
      rw [Tl.dr_end t.ks j h] at h2
      cases h2
  have hT0 := hT.size
  rw [hN] at hrow hjl
  rw [Tl.dr_at t.ks j x hx, TAt.cons] at hAr
  obtain ⟨S1, S2, up, ui, uk, c2, rfl, h1S, h2S, h12, hTx, hA2⟩ := hAr
  have hrow0 := hrow
  obtain ⟨gk, rest, rfl, hLk, hback⟩ := row_block hrow (by omega)
  have hgS := hkS gk rfl
  have hgk := hS gk hgS
  have hcl : csd.length = j * 9 := by have h1 := hAd.len; rw [SC.rsl_len, Tl.tk_len t.ks j (by omega)] at h1; exact h1
  have hv1S : ∀ b, S b → v1.ownBlock ≠ some b := fun b hb e => by
    rcases hown b e with e | e
    · exact (hS b hb).2.2.2.1 e
    · have := (hS b hb).1; omega
  have hv1D : ∀ b, D b → v1.ownBlock ≠ some b := fun b hb e => by
    rcases hown b e with e | e
    · exact (hD b hb).2.2.2 e
    · have := (hD b hb).1; omega
  have hr1 : ∀ b, S1 b → S b ∧ gk ≠ b ∧ vp.ownBlock ≠ some b := fun b hb => ⟨(hSr b (h1S b hb)).1, fun e => (hSr b (h1S b hb)).2.1 (by rw [← e]; rfl), (hSr b (h1S b hb)).2.2⟩
  have hps1 : TM.prs t.ks = TM.prs (t.ks.tk j) ++ ((x.ps ++ TM.prs x.ks) ++ TM.prs (t.ks.dr (j + 1))) := by
    conv => lhs; rw [← Tl.tk_dr t.ks j, TM.prs_app, TM.prs_at hx]
    simp only [List.append_assoc]
  have hc1 := hcnt
  rw [hps1] at hc1
  obtain ⟨-, hc2⟩ := SC.cnt_split hc1
  obtain ⟨hc3, -⟩ := SC.cnt_split hc2
  have hml : (SC.hms R.length (t.ks.tk j)).length = (TM.prs (t.ks.tk j)).length := SC.hms_len R.length (rtl_tk hrt j)
  have hlen2 := hlen
  rw [hps1, List.length_append, List.length_append] at hlen2
  have hxh := TM.hi_in hx
  have hxz := TM.sz_in hx
  have hrx := TM.rtl_in hrt hx
  have hLk2 : Lies wr gk 28 (csd ++ (tcells x up ui uk ++ (c2 ++ rest))) := by
    have e : (csd ++ (tcells ⟨x.k, x.n, x.s, x.ps, x.d, x.ks⟩ up ui uk ++ c2)) ++ rest = csd ++ (tcells x up ui uk ++ (c2 ++ rest)) := by simp only [List.append_assoc]
    rw [← e]
    exact hLk
  refine ⟨gk, rfl, (hR wr D S1 q gk (j * 9) v1 up ui uk csd (c2 ++ rest) R (H ++ SC.hms R.length (t.ks.tk j)) bd hLk2 hcl hTx hhs ?_ ?_ (hO.app _) hbd (by rw [TM.ok1, hrx.1, hrx.2]; rfl) ?_ (by omega) ?_ (by omega)).mono ?_⟩
  · intro b hb
    have h1 := hr1 b hb
    have h2 := hS b h1.1
    exact ⟨by omega, h2.2.1, fun e => h1.2.1 e.symm, hv1S b h1.1, h2.2.2.2.2⟩
  · intro b hb
    have h2 := hD b hb
    exact ⟨by omega, h2.2.1, fun e => hgk.2.2.2.2 (e ▸ hb), hv1D b hb⟩
  · rw [List.length_append, hml]
    have e : ((H.length : Int) + 1 + ((TM.prs (t.ks.tk j)).length : Int)) = ((H.length + (TM.prs (t.ks.tk j)).length : Nat) : Int) + 1 := by push_cast; omega
    rw [← e]
    exact hc3
  · rw [List.length_append, hml]
    omega
  · rintro e w' ⟨rfl, v2, hL2, hT2, hH2, hO2, hTu⟩
    refine ⟨rfl, v2, ?_⟩
    have hgp : ∀ b, vp.ownBlock = some b → b ≠ gk := fun b hb e => row_apart hps hrow0 (by decide) b hb (by rw [e]; rfl)
    have hxq : ∀ b, S b → b ≠ gk → ¬ S1 b → ¬ (b = q ∨ v1.ownBlock = some b ∨ b = gk ∨ S1 b) := fun b h1 h2 h3 h4 => by
      rcases h4 with h4 | h4 | h4 | h4
      · exact (hS b h1).2.1 h4
      · exact hv1S b h1 h4
      · exact h2 h4
      · exact h3 h4
    have hxd : ∀ b, D b → ¬ (b = q ∨ v1.ownBlock = some b ∨ b = gk ∨ S1 b) := fun b h1 h4 => by
      rcases h4 with h4 | h4 | h4 | h4
      · exact (hD b h1).2.1 h4
      · exact hv1D b h1 h4
      · exact hgk.2.2.2.2 (h4 ▸ h1)
      · exact (hS b (hr1 b h4).1).2.2.2.2 h1
    have hsn : SC.rsl R (t.ks.tk (j + 1)) = (SC.rsl R (t.ks.tk j)).app (.one (SC.rs1 R x)) := by
      rw [Tl.tk_snoc t.ks j x hx, SC.rsl_snoc]; rfl
    refine ⟨hbox.turns hTu ?_, ?_, ?_, hps.turns hTu ?_, hdata.agr (Agr.of_turns hTu fun b _ hb => hxd b hb), ?_, ?_⟩
    · rintro (e | e | e | e)
      · exact hhs.box.apart hbox (by decide) e.symm
      · exact row_lies hhs.row hbox (by decide) e
      · exact hgk.2.2.1 e.symm
      · exact (hS g (hr1 g e).1).2.2.1 rfl
    · rw [Tl.tk_snoc t.ks j x hx, SC.hms_snoc, ← List.append_assoc]
      exact hH2
    · intro b hb
      rcases hO2 b hb with e | e
      · exact hown b e
      · exact .inr (by omega)
    · intro b hb
      have hi := hhs.int hps
      rintro (e | e | e | e)
      · exact hi.2 (by rw [← e]; exact hb)
      · exact hi.1 b e hb
      · exact hgp b hb e
      · exact (hr1 b e).2.2 hb
    · refine ⟨fun b => Sd b ∨ S1 b, S2, csd ++ tcells (SC.rs1 R x) up ui uk, c2, ?_, ?_, ?_, ?_, ?_, ?_⟩
      · rw [hN, List.append_assoc]
        refine hback w' _ ?_ (by simp [tcells])
        simp only [List.append_assoc]
        exact hL2
      · rw [hsn]
        refine TAt.app (TAt.turns hTu (fun b _ hb => ?_) (fun b _ hb => hxd b hb) hAd) hT2.at_ (fun b _ h1 h2 => hdis b h1 (h1S b h2))
        exact hxq b (hSd b hb).1 (fun e => (hSd b hb).2.1 (by rw [e]; rfl)) (fun h => hdis b hb (h1S b h))
      · refine TAt.turns hTu (fun b _ hb => ?_) (fun b _ hb => hxd b hb) hA2
        exact hxq b (hSr b (h2S b hb)).1 (fun e => (hSr b (h2S b hb)).2.1 (by rw [e]; rfl)) (fun h => h12 b h hb)
      · intro b hb
        rcases hb with hb | hb
        · exact hSd b hb
        · exact hSr b (h1S b hb)
      · intro b hb
        exact hSr b (h2S b hb)
      · intro b h1 h2
        rcases h1 with h1 | h1
        · exact hdis b h1 (h2S b h2)
        · exact h12 b h1 h2
    · refine hT.then hTu (fun b hlt hb => ?_)
      rcases hb with e | e | e | e
      · exact .inl e
      · rcases hown b e with e | e
        · exact .inr (.inl e)
        · omega
      · exact .inr (.inr (.inr (e ▸ hgS)))
      · exact .inr (.inr (.inr (hr1 b e).1))
set_option maxRecDepth 100000 in
set_option maxHeartbeats 8000000 in
theorem rv_step (k n : Int) (s : List UInt8) (ps : List Int) (d : RM.Dm) (ks : Tl) (hR : ∀ i x, ks.at_ i = some x → RvOk x) : RvOk ⟨k, n, s, ps, d, ks⟩ := by
  intro w D S q g o v vp vi vk pre post R H bd hM ho hT hH hS hD hO hbd hok hcnt hhi hlen hsz
  subst ho
  simp only at hcnt hhi hlen hsz ⊢
  have hfit : TM.fit bd ⟨k, n, s, ps, d, ks⟩ = true := by rw [TM.ok1, Bool.and_eq_true] at hok; exact hok.1
  have hrt : TM.rtl (bd ++ ps) ks = true := by rw [TM.ok1, Bool.and_eq_true] at hok; exact hok.2
  obtain ⟨hc1, hc2⟩ := SC.cnt_split hcnt
  unfold tcells at hM
  simp only at hM
  have x0 := mid_cell (i := 0) hM rfl
  rw [Nat.add_zero] at x0
  have hps24 : k = 8 → ps.length ≤ 24 := fun hk => by
    have h := hfit
    unfold TM.fit at h
    simp [hk] at h
    exact h.1.1.2
  have hps0 : k ≠ 8 → ps = [] := fun h => SC.fit_ps hfit h
  obtain ⟨csk, hPo, hPb, hId, hKo, hKb, hAt⟩ := hT
  simp only at hPo hPb hId hKo hKb hAt
  have hgq : g ≠ q := hM.apart hH.box (by decide)
  obtain ⟨A1, c1, rfl, -⟩ := own_read hKo
  obtain ⟨P3, p3, rfl, -⟩ := hPo.read
  obtain ⟨N, hN⟩ : ∃ N, ks.len = N := ⟨_, rfl⟩
  obtain ⟨L, hL⟩ : ∃ L, ps.length = L := ⟨_, rfl⟩
  obtain ⟨r, hr⟩ : ∃ r, R.length = r := ⟨_, rfl⟩
  have hlt := hH.box.lt
  have hr300 : r ≤ 300 := by omega
  have x1 := mid_cell (i := 1) hM rfl
  have x3 := mid_cell (i := 3) hM rfl
  have x8 := mid_cell (i := 8) hM rfl
  have hN5 : N ≤ 5000 := by have := TM.len_sz ks; omega
  rw [hL] at hM x3 hPo hPb hAt ⊢
  rw [hN] at hM hKo x8 hKb hAt ⊢
  have hLl : ps.length = L := hL
  -- the kinds
  obtain ⟨ps2, hps2⟩ : ∃ l, (if k = 8 then SC.up1 ps.length else ps) = l := ⟨_, rfl⟩
  obtain ⟨n2, hn2⟩ : ∃ m, (if k = 2 ∨ k = 4 then SC.plu 0 R n else n) = m := ⟨_, rfl⟩
  obtain ⟨R2, hR2⟩ : ∃ l, (if k = 8 then ps :: R else R) = l := ⟨_, rfl⟩
  obtain ⟨H2, hH2⟩ : ∃ l, H ++ (if k = 8 then SC.hom R.length ps else []) = l := ⟨_, rfl⟩
  obtain ⟨r2, hr2⟩ : ∃ m, R2.length = m := ⟨_, rfl⟩
  have hloc : k = 2 ∨ k = 4 → ∃ a i : Nat, 1 ≤ n ∧ H[(n - 1).toNat]? = some (a, i) ∧ a < R.length ∧ SC.plu 0 R n = 32 * ((R.length : Int) - 1 - a) + i := fun hk => hO.found (hbd n (by simpa using TM.fit_local hfit hk))
  have hP := Lib.hid (fun (w' : World) (hH' : Hs w' q v H) (hk : k = 2 ∨ k = 4) => by
    obtain ⟨a, i, h1, h2, h3, h4⟩ := hloc hk
    have h5 := (List.getElem?_eq_some_iff.1 h2).1
    have := hplace_any w' q v H n R.length a i hH' h1 h2 (by omega) h3 (by omega)
    rw [← h4] at this
    exact this)
  have hB := Lib.hid (fun (hk : k = 8) => hbind_any w q v (.slice P3 L p3) H ps r hH hPo (by have := hps24 hk; omega) (by rw [List.length_append] at hlen; omega) (by omega))
  have Z := Lib.hid (And.intro hM (And.intro hH (And.intro hPo (And.intro hId (And.intro hKo (And.intro hPb (And.intro hKb hAt)))))))
  have Y := Lib.hid (And.intro hcnt (And.intro hc1 (And.intro hc2 (And.intro hfit (And.intro hrt (And.intro hhi (And.intro hlen (And.intro hsz (And.intro hps24 (And.intro hps0 (And.intro hloc (And.intro hbd hO))))))))))))
  have X := Lib.hid (And.intro hS (And.intro hD (And.intro hR hok)))
  have W := Lib.hid (And.intro hps2 (And.intro hn2 (And.intro hR2 (And.intro hH2 (And.intro hr2 (And.intro hr (And.intro hN (And.intro hL hgq))))))))
  clear hM hH hPo hId hKo hPb hKb hAt hcnt hc1 hc2 hfit hrt hhi hlen hsz hps24 hps0 hloc hbd hO hS hD hR hok hps2 hn2 hR2 hH2 hr2 hr hN hL hgq hLl
  go_enter Tryz.func22, Tryz.ntmps22
  rw [W.out.2.2.2.2.2.1]
  go_upto_block 0 with fail
  go_cut [2] from 11 to 35 (fun s2 wx => s2 = .int .i64 (r2 : Int) ∧ ∃ v2, Hid (Hs wx q v2 H2 ∧ Own wx 0 (.slice P3 L p3) ps2 ∧ Lies wx g 28 (pre ++ ([.int .i64 k, .int .i64 n2, .string ⟨s.toArray⟩, .slice P3 L p3, .int .i64 d.k, .int .i64 d.n, .string ⟨d.s.toArray⟩, vi, .slice A1 N c1] ++ post)) ∧ (∀ b, v2.ownBlock = some b → v.ownBlock = some b ∨ w.heap.size ≤ b) ∧ Turns (fun b => b = q ∨ v.ownBlock = some b ∨ b = g ∨ (Value.slice P3 L p3).ownBlock = some b) w wx))
  case first =>
    by_cases h8 : k = 8
    · have e8 : (k == 8) = true := by simp [h8]
      have hC := Lib.hid (hB.out h8)
      obtain ⟨hM, hH, hPo, -⟩ := Z.out
      have hM' := Lib.hid hM
      have hH' := Lib.hid hH
      have hPo' := Lib.hid hPo
      have h8' := Lib.hid h8
      clear hM hH hPo h8
      go_wp2_with (
        go_at_call 42
        refine hC.out.mono ?_
        rintro e w3 ⟨rfl, v3, hH3, hP3, hv3, hT3⟩
        have R3 := Lib.hid (And.intro hH3 (And.intro hP3 (And.intro hv3 hT3)))
        clear hH3 hP3 hv3 hT3)
      go_meet
      case rel =>
        obtain ⟨hH3, hP3, hv3, hT3⟩ := R3.out
        refine ⟨by rw [← W.out.2.2.2.2.1, ← W.out.2.2.1, if_pos h8'.out, List.length_cons, W.out.2.2.2.2.2.1]; simp, v3, Lib.hid ⟨?_, ?_, ?_, hv3, hT3.mono fun b _ hb => ?_⟩⟩
        · rw [← W.out.2.2.2.1, if_pos h8'.out, W.out.2.2.2.2.2.1]
          exact hH3
        · rw [← W.out.1, if_pos h8'.out]
          exact hP3
        · rw [← W.out.2.1, if_neg (by rw [h8'.out]; decide)]
          refine hM'.out.turns hT3 ?_
          rintro (e | e | e)
          · exact W.out.2.2.2.2.2.2.2.2 e
          · exact row_lies hH'.out.row hM'.out (by decide) e
          · exact row_lies hPo'.out hM'.out (by decide) e
        · rcases hb with e | e | e
          · exact .inl e
          · exact .inr (.inl e)
          · exact .inr (.inr (.inr e))
    have e8 : (k == 8) = false := by simp [h8]
    by_cases h4 : k = 4
    · have e4 : (k == 4) = true := by simp [h4]
      have h4' := Lib.hid h4
      clear h8 h4
      have hC := Lib.hid (hP.out w Z.out.2.1 (.inr h4'.out))
      obtain ⟨hM, hH, hPo, -⟩ := Z.out
      have hM' := Lib.hid hM
      have hH' := Lib.hid hH
      have hPo' := Lib.hid hPo
      have en : n2 = SC.plu 0 R n := by rw [← W.out.2.1, if_pos (.inr h4'.out)]
      rw [← en, W.out.2.2.2.2.2.1] at hC
      have en' := Lib.hid en
      clear hM hH hPo en
      go_wp2_with (
        go_at_call 43
        refine hC.out.mono ?_
        rintro e w3 ⟨rfl, hb3⟩
        have hM3 := hM'.out.below hb3 hM'.out.lt
        have f1 := hM3.free (pre.length + 1)
        have y1 := mid_cell (i := 1) hM3 rfl
        have hb3' := Lib.hid hb3
        have hM3' := Lib.hid hM3
        clear hb3 hM3)
      go_meet
      case rel =>
        refine ⟨by rw [← W.out.2.2.2.2.1, ← W.out.2.2.1, if_neg (by rw [h4'.out]; decide), W.out.2.2.2.2.2.1], v, Lib.hid ⟨?_, ?_, mid_set hM3'.out, fun b hb => .inl hb, ?_⟩⟩
        · rw [← W.out.2.2.2.1, if_neg (by rw [h4'.out]; decide), List.append_nil]
          exact (hH'.out.below hb3'.out).turns ((Turns.refl (fun b => b = g) w3).setCell (p := ⟨g, pre.length + 1, none⟩) (fun _ => rfl) _) (fun e => W.out.2.2.2.2.2.2.2.2 e.symm) (fun b hb e => row_lies hH'.out.row hM'.out (by decide) (by rw [hb, e]))
        · rw [← W.out.1, if_neg (by rw [h4'.out]; decide)]
          exact (hPo'.out.below hb3'.out).turns ((Turns.refl (fun b => b = g) w3).setCell (p := ⟨g, pre.length + 1, none⟩) (fun _ => rfl) _) (fun b hb e => row_lies hPo'.out hM'.out (by decide) (by rw [hb, e]))
        · exact (Turns.of_below hb3'.out _).setCell (p := ⟨g, pre.length + 1, none⟩) (fun _ => .inr (.inr (.inl rfl))) _
    have e4 : (k == 4) = false := by simp [h4]
    by_cases h2 : k = 2
    · have e2 : (k == 2) = true := by simp [h2]
      have h2' := Lib.hid h2
      clear h8 h4 h2
      have hC := Lib.hid (hP.out w Z.out.2.1 (.inl h2'.out))
      obtain ⟨hM, hH, hPo, -⟩ := Z.out
      have hM' := Lib.hid hM
      have hH' := Lib.hid hH
      have hPo' := Lib.hid hPo
      have en : n2 = SC.plu 0 R n := by rw [← W.out.2.1, if_pos (.inl h2'.out)]
      rw [← en, W.out.2.2.2.2.2.1] at hC
      have en' := Lib.hid en
      clear hM hH hPo en
      go_wp2_with (
        go_at_call 43
        refine hC.out.mono ?_
        rintro e w3 ⟨rfl, hb3⟩
        have hM3 := hM'.out.below hb3 hM'.out.lt
        have f1 := hM3.free (pre.length + 1)
        have y1 := mid_cell (i := 1) hM3 rfl
        have hb3' := Lib.hid hb3
        have hM3' := Lib.hid hM3
        clear hb3 hM3)
      go_meet
      case rel =>
        refine ⟨by rw [← W.out.2.2.2.2.1, ← W.out.2.2.1, if_neg (by rw [h2'.out]; decide), W.out.2.2.2.2.2.1], v, Lib.hid ⟨?_, ?_, mid_set hM3'.out, fun b hb => .inl hb, ?_⟩⟩
        · rw [← W.out.2.2.2.1, if_neg (by rw [h2'.out]; decide), List.append_nil]
          exact (hH'.out.below hb3'.out).turns ((Turns.refl (fun b => b = g) w3).setCell (p := ⟨g, pre.length + 1, none⟩) (fun _ => rfl) _) (fun e => W.out.2.2.2.2.2.2.2.2 e.symm) (fun b hb e => row_lies hH'.out.row hM'.out (by decide) (by rw [hb, e]))
        · rw [← W.out.1, if_neg (by rw [h2'.out]; decide)]
          exact (hPo'.out.below hb3'.out).turns ((Turns.refl (fun b => b = g) w3).setCell (p := ⟨g, pre.length + 1, none⟩) (fun _ => rfl) _) (fun b hb e => row_lies hPo'.out hM'.out (by decide) (by rw [hb, e]))
        · exact (Turns.of_below hb3'.out _).setCell (p := ⟨g, pre.length + 1, none⟩) (fun _ => .inr (.inr (.inl rfl))) _
    have e2 : (k == 2) = false := by simp [h2]
    have h8' := Lib.hid h8
    have h4' := Lib.hid h4
    have h2' := Lib.hid h2
    obtain ⟨hM, hH, hPo, -⟩ := Z.out
    have R3 := Lib.hid (And.intro hM (And.intro hH hPo))
    clear hM hH hPo h8 h4 h2
    go_wp2_with fail
    go_meet
    case rel =>
      obtain ⟨hM, hH, hPo⟩ := R3.out
      refine ⟨by rw [← W.out.2.2.2.2.1, ← W.out.2.2.1, if_neg h8'.out, W.out.2.2.2.2.2.1], v, Lib.hid ⟨?_, ?_, ?_, fun b hb => .inl hb, Turns.refl _ _⟩⟩
      · rw [← W.out.2.2.2.1, if_neg h8'.out, List.append_nil]
        exact hH
      · rw [← W.out.1, if_neg h8'.out]
        exact hPo
      · rw [← W.out.2.1, if_neg (fun h => h.elim h2'.out h4'.out)]
        exact hM
  case rest =>
  obtain ⟨rfl, v2, hX⟩ := hcut
  have hW1 := W.out.1
  have hW2 := W.out.2.1
  have hW3 := W.out.2.2.1
  have hW4 := W.out.2.2.2.1
  have hW5 := W.out.2.2.2.2.1
  have hW6 := W.out.2.2.2.2.2.1
  have hW7 := W.out.2.2.2.2.2.2.1
  have hW8 := W.out.2.2.2.2.2.2.2.1
  obtain ⟨hcnt, hc1, hc2, hfit, hrt, hhi, hlen, hsz, hps24, hps0, hloc, hbd, hO⟩ := Y.out
  obtain ⟨hS, hD, hR, hok⟩ := X.out
  obtain ⟨-, hH, hPo, hId, hKo, hPb, hKb, hAt⟩ := Z.out
  have hH2l : H2.length = H.length + ps.length := by
    rw [← hW4, List.length_append]
    by_cases h : k = 8
    · rw [if_pos h, SC.hom_len]
    · rw [if_neg h, hps0 h]; rfl
  have hR2l : R2.length ≤ R.length + 1 := by
    rw [← hW3]
    by_cases h : k = 8
    · rw [if_pos h, List.length_cons]; omega
    · rw [if_neg h]; omega
  have hO2 : SC.HOk R2 H2 := by
    rw [← hW3, ← hW4]
    by_cases h : k = 8
    · rw [if_pos h, if_pos h]; exact hO.push hc1
    · rw [if_neg h, if_neg h, List.append_nil]; exact hO
  have hbd2 : ∀ x ∈ bd ++ ps, ∃ r ∈ R2, x ∈ r := by
    intro x hx
    rw [← hW3]
    rcases List.mem_append.1 hx with hx | hx
    · obtain ⟨r, h1, h2⟩ := hbd x hx
      by_cases h : k = 8
      · rw [if_pos h]; exact ⟨r, by simp [h1], h2⟩
      · rw [if_neg h]; exact ⟨r, h1, h2⟩
    · by_cases h : k = 8
      · rw [if_pos h]; exact ⟨ps, by simp, hx⟩
      · rw [hps0 h] at hx; simp at hx
  have hcn2 : TM.prs ks = SC.cnt (H2.length + 1) (TM.prs ks).length := by
    have e : ((H2.length : Int) + 1) = (H.length : Int) + 1 + ps.length := by rw [hH2l]; push_cast; omega
    rw [e]
    exact hc2
  have hln2 : H2.length + (TM.prs ks).length ≤ 100000 := by rw [List.length_append] at hlen; omega
  have hCall := Lib.hid (fun (wr : World) (v1 : Value) (j : Nat) (x : Tm) (h : Rl D S q g (.slice P3 L p3) vi (.slice A1 N c1) pre post R2 H2 ⟨k, n2, s, ps2, d, ks⟩ w v j v1 wr) (hx : ks.at_ j = some x) =>
    Rl.call (bd := bd ++ ps) h (hR j x hx) hW7 hx hS hD hKb hO2 hbd2 hrt hcn2 (by show R2.length + TM.hi ks ≤ 301; omega) hln2 hsz)
  have hSt : Rl D S q g (.slice P3 L p3) vi (.slice A1 N c1) pre post R2 H2 ⟨k, n2, s, ps2, d, ks⟩ w v 0 v2 wc := by
    obtain ⟨hHc, hPc, hLc, hvc, hTc⟩ := hX.out
    have hpq := hH.int hPo
    have hxS : ∀ b, S b → (Value.slice P3 L p3).ownBlock ≠ some b → ¬ (b = q ∨ v.ownBlock = some b ∨ b = g ∨ (Value.slice P3 L p3).ownBlock = some b) := fun b hb hp h => by
      rcases h with h | h | h | h
      · exact (hS b hb).2.1 h
      · exact (hS b hb).2.2.2.1 h
      · exact (hS b hb).2.2.1 h
      · exact hp h
    have hxD : ∀ b, D b → ¬ (b = q ∨ v.ownBlock = some b ∨ b = g ∨ (Value.slice P3 L p3).ownBlock = some b) := fun b hb h => by
      rcases h with h | h | h | h
      · exact (hD b hb).2.1 h
      · exact (hD b hb).2.2.2 h
      · exact (hD b hb).2.2.1 h
      · exact (hS b (hPb b h)).2.2.2.2 hb
    refine ⟨hLc, ?_, hvc, hPc, hId.agr (Agr.of_turns hTc fun b _ hb => hxD b hb), ⟨fun _ => False, fun b => S b ∧ (Value.slice A1 N c1).ownBlock ≠ some b ∧ (Value.slice P3 L p3).ownBlock ≠ some b, [], csk, ?_, ?_, ?_, fun b h => h.elim, fun b h => h, fun b h => h.elim⟩, hTc.mono fun b _ hb => ?_⟩
    · rw [Tl.tk_zero, SC.hms, List.append_nil]
      exact hHc
    · show wc.ownsRow 0 28 9 (.slice A1 N c1) ks.len ([] ++ csk)
      rw [hW7, List.nil_append]
      exact own_turns hKo hTc (fun b hb => hxS b (hKb b hb) (fun e => row_apart hPo hKo (by decide) b e hb))
    · rw [Tl.tk_zero]; rfl
    · rw [Tl.dr_zero]
      exact TAt.turns hTc (fun b _ hb => hxS b hb.1 hb.2.2) (fun b _ hb => hxD b hb) hAt
    · rcases hb with h | h | h | h
      · exact .inl h
      · exact .inr (.inl h)
      · exact .inr (.inr (.inl h))
      · exact .inr (.inr (.inr (hPb b h)))
  have hSt' := Lib.hid hSt
  have y8 := mid_cell (i := 8) hSt.box rfl
  have hW5' := Lib.hid hW5
  have hW7' := Lib.hid hW7
  have hFin := Lib.hid (fun (wr : World) (v1 : Value) (h : Rl D S q g (.slice P3 L p3) vi (.slice A1 N c1) pre post R2 H2 ⟨k, n2, s, ps2, d, ks⟩ w v N v1 wr) => show ∃ v', Lies wr g 28 (pre ++ (tcells (SC.rs1 R ⟨k, n, s, ps, d, ks⟩) (.slice P3 L p3) vi (.slice A1 N c1) ++ post)) ∧ TmOwn wr D S (SC.rs1 R ⟨k, n, s, ps, d, ks⟩) (.slice P3 L p3) vi (.slice A1 N c1) ∧ Hs wr q v' (H ++ SC.hm1 R.length ⟨k, n, s, ps, d, ks⟩) ∧ (∀ b, v'.ownBlock = some b → v.ownBlock = some b ∨ w.heap.size ≤ b) ∧ Turns (fun b => b = q ∨ v.ownBlock = some b ∨ b = g ∨ S b) w wr from by
    have e1 : SC.rs1 R ⟨k, n, s, ps, d, ks⟩ = ⟨k, n2, s, ps2, d, SC.rsl R2 ks⟩ := by
      unfold SC.rs1
      simp only
      rw [hW1, hW2, hW3]
    have e2 : H ++ SC.hm1 R.length ⟨k, n, s, ps, d, ks⟩ = H2 ++ SC.hms R2.length ks := by
      unfold SC.hm1
      simp only
      rw [← List.append_assoc, hW4, ← hW3]
      by_cases h : k = 8
      · rw [if_pos h, if_pos h, List.length_cons]
      · rw [if_neg h, if_neg h]
    rw [e1, e2]
    obtain ⟨hbox, hhs, hown, hps, hdata, ⟨Sd, Sr, csd, csr, hrow, hAd, hAr, hSd, hSr, hdis⟩, hT⟩ := h
    have hall : ks.tk N = ks := by rw [← hW7]; exact Tl.tk_all ks
    have hcr : csr = [] := by
      have h := hAr
      rw [Tl.dr_end ks N (by rw [hW7]; exact Nat.le_refl _)] at h
      exact h
    subst hcr
    simp only [hall] at hhs hAd hrow
    refine ⟨v1, hbox, ⟨csd, hps, hPb, hdata, ?_, hKb, TAt.mono (fun b _ hb => hSd b hb) hAd⟩, hhs, hown, hT⟩
    show wr.ownsRow 0 28 9 (.slice A1 N c1) (SC.rsl R2 ks).len csd
    rw [SC.rsl_len]
    rw [List.append_nil] at hrow
    exact hrow)
  clear hcnt hc1 hc2 hfit hrt hhi hlen hsz hps24 hps0 hloc hbd hO hS hD hR hok hH hPo hId hKo hPb hKb hAt hH2l hR2l hO2 hbd2 hcn2 hln2 hSt hX hW1 hW2 hW3 hW4 hW5 hW6 hW7 hW8 hP hB Z Y X W x0 x1 x3 x8
  go_wp2_with fail
  go_loopw [41] (fun i wr => ∃ (j : Nat) (v1 : Value), j ≤ N ∧ i = .int .i64 j ∧ Rl D S q g (.slice P3 L p3) vi (.slice A1 N c1) pre post R2 H2 ⟨k, n2, s, ps2, d, ks⟩ w v j v1 wr) (fun i _ => N - (intOf i).toNat)
  case atStart => exact ⟨0, v2, Nat.zero_le _, rfl, hSt'.out⟩
  case round =>
    obtain ⟨j, v1, hj, rfl, hr1⟩ := hrel
    clear y8 hSt'
    have y8 := mid_cell (i := 8) hr1.box rfl
    by_cases hlt : j < N
    · obtain ⟨x, hx⟩ := ks.at_some j (by rw [hW7'.out]; exact hlt)
      obtain ⟨gk, rfl, hC0⟩ := hCall.out wr v1 j x hr1 hx
      rw [hW5'.out] at hC0
      have hC := Lib.hid hC0
      clear hC0 hr1 hx
      go_wp2_with (
        go_at_call 22
        refine hC.out.mono ?_
        rintro e w7 ⟨rfl, v7, h7⟩
        have h7' := Lib.hid h7
        clear h7)
      go_roundw
      case rel => exact ⟨j + 1, v7, by omega, by go_num, h7'.out⟩
      case measure => simp [intOf]; omega
    · obtain rfl : j = N := by omega
      have hr2 := Lib.hid hr1
      clear hr1
      go_wp2_with fail
      go_end0
      exact ⟨rfl, hFin.out _ _ hr2.out⟩
theorem resolve_any (t : Tm) : RvOk t := Tl.all_one _ rv_step t
end Go.Proofs.YtpiekdcbjkgipaaGreat
