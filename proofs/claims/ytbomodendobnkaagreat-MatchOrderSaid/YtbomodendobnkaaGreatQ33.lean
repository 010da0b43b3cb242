/- Package match: Match. -/
import Derived.Test.YtbomodendobnkaaGreatQ32
import Derived.Laws.EntriesVeiled
namespace Go.Proofs.YtbomodendobnkaaGreat
open Go.ChangeShapes Go.WideShapes Go.ChangeAt Go.RowKit Go.Deep
open MM (Bl Bm Var)

theorem five_boxes (w : World) (v1 v2 v3 v4 v5 : Array Value) (t1 t2 t3 t4 t5 : TypeId) (W : World) (hW : W = ((((w.alloc (.cells v1 t1)).alloc (.cells v2 t2)).alloc (.cells v3 t3)).alloc (.cells v4 t4)).alloc (.cells v5 t5)) :
    Below w.heap.size w W ∧ Lies W w.heap.size t1 v1.toList ∧ Lies W (w.heap.size + 1) t2 v2.toList ∧ Lies W (w.heap.size + 1 + 1) t3 v3.toList ∧ Lies W (w.heap.size + 1 + 1 + 1) t4 v4.toList ∧ Lies W (w.heap.size + 1 + 1 + 1 + 1) t5 v5.toList := by
  subst hW
  obtain ⟨h1, h2, h3, h4⟩ := three_boxes w v1 v2 v3 t1 t2 t3
  have h5 := Lies.made (((w.alloc (.cells v1 t1)).alloc (.cells v2 t2)).alloc (.cells v3 t3)) t4 v4
  rw [show (((w.alloc (.cells v1 t1)).alloc (.cells v2 t2)).alloc (.cells v3 t3)).heap.size = w.heap.size + 1 + 1 + 1 by simp] at h5
  have h6 := Lies.made ((((w.alloc (.cells v1 t1)).alloc (.cells v2 t2)).alloc (.cells v3 t3)).alloc (.cells v4 t4)) t5 v5
  rw [show ((((w.alloc (.cells v1 t1)).alloc (.cells v2 t2)).alloc (.cells v3 t3)).alloc (.cells v4 t4)).heap.size = w.heap.size + 1 + 1 + 1 + 1 by simp] at h6
  exact ⟨(h1.alloc (by simp; omega) _).alloc (by simp; omega) _, (h2.alloc _).alloc _, (h3.alloc _).alloc _, (h4.alloc _).alloc _, h5.alloc _, h6⟩
theorem bnd_step {vs : List Var} {y : RM.Dm} {j : Nat} {x : Var} {rest : Bl} (hx : vs[j]? = some x) (h : MM.bnd (vs.drop j) y = some rest) :
    ∃ b r', x.fd y = some b ∧ MM.bnd (vs.drop (j + 1)) y = some r' ∧ rest = .cons b.nm b.dp b.d b.ks r' := by
  have hj := (List.getElem?_eq_some_iff.1 hx).1
  have e : vs.drop j = x :: vs.drop (j + 1) := by
    rw [List.drop_eq_getElem_cons hj]
    congr 1
    exact (List.getElem?_eq_some_iff.1 hx).2
  rw [e] at h
  unfold MM.bnd at h
  cases hF : x.fd y with
  | none => rw [hF] at h; cases h
  | some b =>
    rw [hF] at h
    simp only [Option.map_eq_some_iff] at h
    obtain ⟨r', h1, h2⟩ := h
    exact ⟨b, r', rfl, h1, h2.symm⟩
/-- what Match answers -/
def mres (is : Bool) (n : MM.NM) (Q : List UInt8 → List UInt8 → Bool) (x y : RM.Dm) : Option Bl :=
  match MM.pat n x with
  | none => none
  | some vs => if is && (MM.fits y && MM.mt n Q 64 x y) then MM.bnd vs y else none
theorem pat_fits {n : MM.NM} {x : RM.Dm} {vs : List Var} (h : MM.pat n x = some vs) : MM.vars n 64 x = some vs ∧ SM.sz x.is + 1 ≤ 4000 ∧ SM.hi x.is + 1 ≤ 64 := by
  unfold MM.pat at h
  split at h
  · rename_i hf
    unfold MM.fits at hf
    simp only [Bool.and_eq_true, decide_eq_true_eq] at hf
    split at h
    · cases h
    · rename_i vs' hvs
      split at h
      · simp only [Option.some.injEq] at h
        subst h
        exact ⟨hvs, hf⟩
      · cases h
  · cases h
def MatchN (R : Option Bl) (w : World) (e : Ending) (w' : World) : Prop :=
  Went w w' ∧ ((R = none ∧ e = .returned (.tuple #[.slice none 0 0, .bool false])) ∨ ∃ l A c, R = some l ∧ e = .returned (.tuple #[.slice A l.len c, .bool true]) ∧ BnD w' (fun g => w.heap.size ≤ g) (.slice A l.len c) l)
set_option maxRecDepth 100000 in
set_option maxHeartbeats 8000000 in
theorem match_any (w : World) (tp : Option Nat) (ta tf : Int) (x y : RM.Dm) (u v lv : Value) (lits : List (List UInt8)) (dots : List UInt8) (Q : List UInt8 → List UInt8 → Bool)
    (hu : Cn w u x.is) (hv : Cn w v y.is) (hx : Db x) (hy : Db y) (hzx : SM.sz x.is ≤ 5000) (hzy : SM.sz y.is ≤ 5000) (hl : Sn w lv lits) (hll : lits.length ≤ 1000) (hls : ∀ x ∈ lits, x.length ≤ maxLen) (hdl : dots.length ≤ maxLen)
    (hQ : tp.isSome = true → QOk w (.pointer (tp.map fun p => ⟨p, 0, none⟩)) ta tf (MM.nms lits dots) Q) :
    Calls Tryz.prog 7 #[.pointer (tp.map fun p => ⟨p, 0, none⟩), .int .i64 ta, dtv x u, .int .i64 tf, dtv y v, lv, .string ⟨dots.toArray⟩] w (MatchN (mres tp.isSome (MM.nms lits dots) Q x y) w) := by
  obtain ⟨A, cA, rfl⟩ := hu.read
  obtain ⟨B, cB, rfl⟩ := hv.read
  obtain ⟨LA, Lc, rfl⟩ := hl.read
  have hNa := Lib.hid (fun (w' : World) (hb' : Below w.heap.size w w') => namesOf_any w' _ lits dots (hl.below hb') hll hls hdl)
  obtain ⟨n, hn⟩ : ∃ n, MM.nms lits dots = n := ⟨_, rfl⟩
  rw [hn] at hNa hQ ⊢
  have hPt := Lib.hid (fun (w' : World) (hb' : Below w.heap.size w w') q (hN : Nm w' q 2000 n) => pattern_any w' q 2000 n hN w' x _ (Below.refl _ _) (hu.below hb') hx.1 hx.2 hzx)
  have hFi := Lib.hid (fun (w' : World) (hb' : Below w.heap.size w w') => fits_any y w' _ (hv.below hb').in_)
  have hu' := Lib.hid hu
  have hv' := Lib.hid hv
  have hx' := Lib.hid hx
  have hy' := Lib.hid hy
  have hQ' := Lib.hid hQ
  have hzx' := Lib.hid hzx
  have hzy' := Lib.hid hzy
  obtain ⟨R, hR⟩ : ∃ R, mres tp.isSome n Q x y = R := ⟨_, rfl⟩
  rw [hR]
  unfold mres at hR
  unfold dtv at *
  obtain ⟨LN, hLN⟩ : ∃ LN, lits.length = LN := ⟨_, rfl⟩
  rw [hLN] at hNa ⊢
  obtain ⟨tv, htv⟩ : ∃ tv, Value.pointer (tp.map fun p => ⟨p, 0, none⟩) = tv := ⟨_, rfl⟩
  rw [htv] at hQ' ⊢
  obtain ⟨PT, hPT⟩ : ∃ PT, MM.pat n x = PT := ⟨_, rfl⟩
  have hPT' := Lib.hid hPT
  rw [hPT] at hR
  simp only [hPT] at hPt
  obtain ⟨W5, hW5⟩ : ∃ W5, W5 = ((((w.alloc (.cells #[tv] 32)).alloc (.cells #[.int .i64 ta] 3)).alloc (.cells #[.int .i64 x.k, .int .i64 x.n, .string ⟨x.s.toArray⟩, .slice A x.is.len cA] 24)).alloc (.cells #[.int .i64 tf] 3)).alloc (.cells #[.int .i64 y.k, .int .i64 y.n, .string ⟨y.s.toArray⟩, .slice B y.is.len cB] 24) := ⟨_, rfl⟩
  obtain ⟨b5, L1, L2, L3, L4, L5⟩ := five_boxes w _ _ _ _ _ _ _ _ _ _ W5 hW5
  have b5' := Lib.hid b5
  have hs5 := b5.size
  clear hu hv hl hQ hx hy hzx hzy hn hll hls hdl hLN hPT b5
  cases tp with
  | none =>
    have hRn : R = none := by rw [← hR]; cases PT <;> rfl
    subst hRn
    obtain rfl : tv = .pointer none := htv.symm
    cases PT with
    | none =>
      go_enter Tryz.func7, Tryz.ntmps7
      go_wp2_with (first
        | (go_at_call 16
           refine (hNa.out _ (by rw [← hW5]; exact b5'.out)).mono ?_
           rintro e w1 ⟨q, rfl, hq, hNm, hb1⟩
           rw [← hW5] at hq hb1
           have E1 := (L1.below hb1 L1.lt).alloc (.cells #[.map (some q)] 50)
           have E2 := (L2.below hb1 L2.lt).alloc (.cells #[.map (some q)] 50)
           have E3 := (L3.below hb1 L3.lt).alloc (.cells #[.map (some q)] 50)
           have E4 := (L4.below hb1 L4.lt).alloc (.cells #[.map (some q)] 50)
           have E5 := (L5.below hb1 L5.lt).alloc (.cells #[.map (some q)] 50)
           have E6 := Lies.made w1 50 #[.map (some q)]
           have k0 := E3.cell 0
           have k1 := E3.cell 1
           have k2 := E3.cell 2
           have k3 := E3.cell 3
           simp only [List.getElem?_cons_zero, List.getElem?_cons_succ] at k0 k1 k2 k3
           have bw1 := b5'.out.trans (hb1.mono b5'.out.size)
           have bw2 := Lib.hid (bw1.alloc bw1.size (.cells #[.map (some q)] 50))
           have hNm2 := hNm.below (m_box w1 #[.map (some q)] 50)
           have hPt2 := Lib.hid (hPt.out _ bw2.out q hNm2)
           have hNm3 := Lib.hid hNm2
           have hsz1 := bw1.size
           have hsz2 : w.heap.size + 1 + 1 + 1 + 1 < w1.heap.size := (L5.below hb1 L5.lt).lt
           clear hNm hb1 hNm2)
        | (go_at_call 17
           refine hPt2.out.mono ?_
           intro e w3 h3
           obtain ⟨rfl, hb3⟩ := h3.none_
           have F1 := E1.below hb3 E1.lt
           have f1 := F1.cell 0
           simp only [List.getElem?_cons_zero] at f1
           have bw3 := Lib.hid (bw2.out.trans (hb3.mono bw2.out.size))
           clear h3 hb3))
      go_ret2
      exact ⟨bw3.out, .inl ⟨rfl, rfl⟩⟩
    | some vs =>
      go_enter Tryz.func7, Tryz.ntmps7
      go_wp2_with (first
        | (go_at_call 16
           refine (hNa.out _ (by rw [← hW5]; exact b5'.out)).mono ?_
           rintro e w1 ⟨q, rfl, hq, hNm, hb1⟩
           rw [← hW5] at hq hb1
           have E1 := (L1.below hb1 L1.lt).alloc (.cells #[.map (some q)] 50)
           have E2 := (L2.below hb1 L2.lt).alloc (.cells #[.map (some q)] 50)
           have E3 := (L3.below hb1 L3.lt).alloc (.cells #[.map (some q)] 50)
           have E4 := (L4.below hb1 L4.lt).alloc (.cells #[.map (some q)] 50)
           have E5 := (L5.below hb1 L5.lt).alloc (.cells #[.map (some q)] 50)
           have E6 := Lies.made w1 50 #[.map (some q)]
           have k0 := E3.cell 0
           have k1 := E3.cell 1
           have k2 := E3.cell 2
           have k3 := E3.cell 3
           simp only [List.getElem?_cons_zero, List.getElem?_cons_succ] at k0 k1 k2 k3
           have bw1 := b5'.out.trans (hb1.mono b5'.out.size)
           have bw2 := Lib.hid (bw1.alloc bw1.size (.cells #[.map (some q)] 50))
           have hNm2 := hNm.below (m_box w1 #[.map (some q)] 50)
           have hPt2 := Lib.hid (hPt.out _ bw2.out q hNm2)
           have hNm3 := Lib.hid hNm2
           have hsz1 := bw1.size
           have hsz2 : w.heap.size + 1 + 1 + 1 + 1 < w1.heap.size := (L5.below hb1 L5.lt).lt
           clear hNm hb1 hNm2)
        | (go_at_call 17
           refine hPt2.out.mono ?_
           intro e w3 h3
           obtain ⟨VA, vc, rfl, hO3, hOb3, hb3⟩ := h3.some_
           have F1 := E1.below hb3 E1.lt
           have F2 := E2.below hb3 E2.lt
           have F3 := E3.below hb3 E3.lt
           have F4 := E4.below hb3 E4.lt
           have F5 := E5.below hb3 E5.lt
           have F6 := E6.below hb3 E6.lt
           have f1 := F1.cell 0
           have f50 := F5.cell 0
           have f51 := F5.cell 1
           have f52 := F5.cell 2
           have f53 := F5.cell 3
           simp only [List.getElem?_cons_zero, List.getElem?_cons_succ] at f1 f50 f51 f52 f53
           have hNm4 := Lib.hid (hNm3.out.below hb3)
           have bw3 := Lib.hid (bw2.out.trans (hb3.mono bw2.out.size))
           have hO4 := Lib.hid hO3
           have hsz3 := hb3.size
           clear h3 hb3 hO3 hOb3))
      go_ret2
      exact ⟨bw3.out, .inl ⟨rfl, rfl⟩⟩
  | some tb =>
    obtain rfl : tv = .pointer (some ⟨tb, 0, none⟩) := htv.symm
    have hQ2 := Lib.hid (hQ'.out rfl)
    clear hQ'
    cases PT with
    | none =>
      have hRn : R = none := by rw [← hR]
      subst hRn
      go_enter Tryz.func7, Tryz.ntmps7
      go_wp2_with (first
        | (go_at_call 16
           refine (hNa.out _ (by rw [← hW5]; exact b5'.out)).mono ?_
           rintro e w1 ⟨q, rfl, hq, hNm, hb1⟩
           rw [← hW5] at hq hb1
           have E1 := (L1.below hb1 L1.lt).alloc (.cells #[.map (some q)] 50)
           have E2 := (L2.below hb1 L2.lt).alloc (.cells #[.map (some q)] 50)
           have E3 := (L3.below hb1 L3.lt).alloc (.cells #[.map (some q)] 50)
           have E4 := (L4.below hb1 L4.lt).alloc (.cells #[.map (some q)] 50)
           have E5 := (L5.below hb1 L5.lt).alloc (.cells #[.map (some q)] 50)
           have E6 := Lies.made w1 50 #[.map (some q)]
           have k0 := E3.cell 0
           have k1 := E3.cell 1
           have k2 := E3.cell 2
           have k3 := E3.cell 3
           simp only [List.getElem?_cons_zero, List.getElem?_cons_succ] at k0 k1 k2 k3
           have bw1 := b5'.out.trans (hb1.mono b5'.out.size)
           have bw2 := Lib.hid (bw1.alloc bw1.size (.cells #[.map (some q)] 50))
           have hNm2 := hNm.below (m_box w1 #[.map (some q)] 50)
           have hPt2 := Lib.hid (hPt.out _ bw2.out q hNm2)
           have hNm3 := Lib.hid hNm2
           have hsz1 := bw1.size
           have hsz2 : w.heap.size + 1 + 1 + 1 + 1 < w1.heap.size := (L5.below hb1 L5.lt).lt
           clear hNm hb1 hNm2)
        | (go_at_call 17
           refine hPt2.out.mono ?_
           intro e w3 h3
           obtain ⟨rfl, hb3⟩ := h3.none_
           have F1 := E1.below hb3 E1.lt
           have f1 := F1.cell 0
           simp only [List.getElem?_cons_zero] at f1
           have bw3 := Lib.hid (bw2.out.trans (hb3.mono bw2.out.size))
           clear h3 hb3))
      go_ret2
      exact ⟨bw3.out, .inl ⟨rfl, rfl⟩⟩
    | some vs =>
      obtain ⟨FB, hFB⟩ : ∃ FB, MM.fits y = FB := ⟨_, rfl⟩
      simp only [hFB] at hFi hR
      cases FB with
      | false =>
        have hRn : R = none := by rw [← hR]; rfl
        subst hRn
        go_enter Tryz.func7, Tryz.ntmps7
        go_wp2_with (first
          | (go_at_call 16
             refine (hNa.out _ (by rw [← hW5]; exact b5'.out)).mono ?_
             rintro e w1 ⟨q, rfl, hq, hNm, hb1⟩
             rw [← hW5] at hq hb1
             have E1 := (L1.below hb1 L1.lt).alloc (.cells #[.map (some q)] 50)
             have E2 := (L2.below hb1 L2.lt).alloc (.cells #[.map (some q)] 50)
             have E3 := (L3.below hb1 L3.lt).alloc (.cells #[.map (some q)] 50)
             have E4 := (L4.below hb1 L4.lt).alloc (.cells #[.map (some q)] 50)
             have E5 := (L5.below hb1 L5.lt).alloc (.cells #[.map (some q)] 50)
             have E6 := Lies.made w1 50 #[.map (some q)]
             have k0 := E3.cell 0
             have k1 := E3.cell 1
             have k2 := E3.cell 2
             have k3 := E3.cell 3
             simp only [List.getElem?_cons_zero, List.getElem?_cons_succ] at k0 k1 k2 k3
             have bw1 := b5'.out.trans (hb1.mono b5'.out.size)
             have bw2 := Lib.hid (bw1.alloc bw1.size (.cells #[.map (some q)] 50))
             have hNm2 := hNm.below (m_box w1 #[.map (some q)] 50)
             have hPt2 := Lib.hid (hPt.out _ bw2.out q hNm2)
             have hNm3 := Lib.hid hNm2
             have hsz1 := bw1.size
             have hsz2 : w.heap.size + 1 + 1 + 1 + 1 < w1.heap.size := (L5.below hb1 L5.lt).lt
             clear hNm hb1 hNm2)
          | (go_at_call 17
             refine hPt2.out.mono ?_
             intro e w3 h3
             obtain ⟨VA, vc, rfl, hO3, hOb3, hb3⟩ := h3.some_
             have F1 := E1.below hb3 E1.lt
             have F2 := E2.below hb3 E2.lt
             have F3 := E3.below hb3 E3.lt
             have F4 := E4.below hb3 E4.lt
             have F5 := E5.below hb3 E5.lt
             have F6 := E6.below hb3 E6.lt
             have f1 := F1.cell 0
             have f50 := F5.cell 0
             have f51 := F5.cell 1
             have f52 := F5.cell 2
             have f53 := F5.cell 3
             simp only [List.getElem?_cons_zero, List.getElem?_cons_succ] at f1 f50 f51 f52 f53
             have hNm4 := Lib.hid (hNm3.out.below hb3)
             have bw3 := Lib.hid (bw2.out.trans (hb3.mono bw2.out.size))
             have hO4 := Lib.hid hO3
             have hsz3 := hb3.size
             clear h3 hb3 hO3 hOb3)
          | (go_at_call 18
             refine (hFi.out _ bw3.out).mono ?_
             rintro e w4 ⟨rfl, hb4⟩
             have bw4 := Lib.hid (bw3.out.trans (hb4.mono bw3.out.size))
             clear hb4))
        go_ret2
        exact ⟨bw4.out, .inl ⟨rfl, rfl⟩⟩
      | true =>
        simp only [Option.isSome_some, Bool.true_and] at hR
        have hpf := Lib.hid (pat_fits hPT'.out)
        obtain ⟨MT, hmt⟩ : ∃ MT, MM.mt n Q 64 x y = MT := ⟨_, rfl⟩
        have hmt2 := Lib.hid hmt
        rw [hmt] at hR
        cases MT with
        | false =>
          have hRn : R = none := by rw [← hR]; rfl
          subst hRn
          go_enter Tryz.func7, Tryz.ntmps7
          go_wp2_with (first
            | (go_at_call 16
               refine (hNa.out _ (by rw [← hW5]; exact b5'.out)).mono ?_
               rintro e w1 ⟨q, rfl, hq, hNm, hb1⟩
               rw [← hW5] at hq hb1
               have E1 := (L1.below hb1 L1.lt).alloc (.cells #[.map (some q)] 50)
               have E2 := (L2.below hb1 L2.lt).alloc (.cells #[.map (some q)] 50)
               have E3 := (L3.below hb1 L3.lt).alloc (.cells #[.map (some q)] 50)
               have E4 := (L4.below hb1 L4.lt).alloc (.cells #[.map (some q)] 50)
               have E5 := (L5.below hb1 L5.lt).alloc (.cells #[.map (some q)] 50)
               have E6 := Lies.made w1 50 #[.map (some q)]
               have k0 := E3.cell 0
               have k1 := E3.cell 1
               have k2 := E3.cell 2
               have k3 := E3.cell 3
               simp only [List.getElem?_cons_zero, List.getElem?_cons_succ] at k0 k1 k2 k3
               have bw1 := b5'.out.trans (hb1.mono b5'.out.size)
               have bw2 := Lib.hid (bw1.alloc bw1.size (.cells #[.map (some q)] 50))
               have hNm2 := hNm.below (m_box w1 #[.map (some q)] 50)
               have hPt2 := Lib.hid (hPt.out _ bw2.out q hNm2)
               have hNm3 := Lib.hid hNm2
               have hsz1 := bw1.size
               have hsz2 : w.heap.size + 1 + 1 + 1 + 1 < w1.heap.size := (L5.below hb1 L5.lt).lt
               clear hNm hb1 hNm2)
            | (go_at_call 17
               refine hPt2.out.mono ?_
               intro e w3 h3
               obtain ⟨VA, vc, rfl, hO3, hOb3, hb3⟩ := h3.some_
               have F1 := E1.below hb3 E1.lt
               have F2 := E2.below hb3 E2.lt
               have F3 := E3.below hb3 E3.lt
               have F4 := E4.below hb3 E4.lt
               have F5 := E5.below hb3 E5.lt
               have F6 := E6.below hb3 E6.lt
               have f1 := F1.cell 0
               have f50 := F5.cell 0
               have f51 := F5.cell 1
               have f52 := F5.cell 2
               have f53 := F5.cell 3
               simp only [List.getElem?_cons_zero, List.getElem?_cons_succ] at f1 f50 f51 f52 f53
               have hNm4 := Lib.hid (hNm3.out.below hb3)
               have bw3 := Lib.hid (bw2.out.trans (hb3.mono bw2.out.size))
               have hO4 := Lib.hid hO3
               have hsz3 := hb3.size
               clear h3 hb3 hO3 hOb3)
            | (go_at_call 18
               refine (hFi.out _ bw3.out).mono ?_
               rintro e w4 ⟨rfl, hb4⟩
               have bw4 := Lib.hid (bw3.out.trans (hb4.mono bw3.out.size))
               have K1 := F1.below hb4 F1.lt
               have K2 := F2.below hb4 F2.lt
               have K3 := F3.below hb4 F3.lt
               have K4 := F4.below hb4 F4.lt
               have K5 := F5.below hb4 F5.lt
               have K6 := F6.below hb4 F6.lt
               have hNm5 := Lib.hid (hNm4.out.below hb4)
               have hO5 := Lib.hid (hO4.out.below hb4)
               have hsz4 := hb4.size
               have mb := m_box w4 #[clv w1.heap.size w4.heap.size w.heap.size (w.heap.size + 1) (w.heap.size + 1 + 1 + 1)] 55
               have bw0 := Lib.hid (bw4.out.trans (mb.mono bw4.out.size))
               have J3 := K3.below mb K3.lt
               have J5 := K5.below mb K5.lt
               have hCl : Cl (w4.alloc (.cells #[clv w1.heap.size w4.heap.size w.heap.size (w.heap.size + 1) (w.heap.size + 1 + 1 + 1)] 55)) w1.heap.size w4.heap.size w.heap.size (w.heap.size + 1) (w.heap.size + 1 + 1 + 1) q (.pointer (some ⟨tb, 0, none⟩)) ta tf := ⟨K6.below mb K6.lt, Lies.made _ _ _, K1.below mb K1.lt, K2.below mb K2.lt, K4.below mb K4.lt⟩
               have hMT := Lib.hid (mt_any _ _ _ _ _ _ q 2000 _ ta tf n Q (some ⟨tb, 0, none⟩) rfl (hNm5.out.below mb) hCl (fun w' x y hb' => hQ2.out w' x y (bw0.out.trans (hb'.mono bw0.out.size))) 64 _ x _ y _ (Below.refl _ _) ⟨hu'.out.below bw0.out, hx'.out.1, hx'.out.2, hzx'.out, hpf.out.2.2⟩ (hv'.out.below bw0.out) hy'.out)
               have hO6 := Lib.hid (hO5.out.below mb)
               rw [hmt] at hMT
               unfold clv dtv at *
               have m0 := J3.cell 0
               have m1 := J3.cell 1
               have m2 := J3.cell 2
               have m3 := J3.cell 3
               have l0 := J5.cell 0
               have l1 := J5.cell 1
               have l2 := J5.cell 2
               have l3 := J5.cell 3
               simp only [List.getElem?_cons_zero, List.getElem?_cons_succ] at m0 m1 m2 m3 l0 l1 l2 l3
               clear hb4 hCl mb)
            | (go_at_call 19
               refine hMT.out.mono ?_
               rintro e w6 ⟨rfl, hb6⟩
               have bw6 := Lib.hid (bw0.out.trans (hb6.mono bw0.out.size))
               skip))
          go_ret2
          exact ⟨bw6.out, .inl ⟨rfl, rfl⟩⟩
        | true =>
          rw [if_pos rfl] at hR
          have hfin := MM.bnd_fine (MM.fine_any n Q 64 x y vs hmt hpf.out.1)
          obtain ⟨l, hl1, hl2, -⟩ := hfin
          have hvl : vs.length ≤ 5000 := by have h1 := MM.vars_len n 64 x vs hpf.out.1; have h2 := hpf.out.2.1; omega
          rw [hl1] at hR
          have hl1' := Lib.hid hl1
          subst hR
          clear hl1
          go_enter Tryz.func7, Tryz.ntmps7
          go_wp2_with (first
            | (go_at_call 16
               refine (hNa.out _ (by rw [← hW5]; exact b5'.out)).mono ?_
               rintro e w1 ⟨q, rfl, hq, hNm, hb1⟩
               rw [← hW5] at hq hb1
               have E1 := (L1.below hb1 L1.lt).alloc (.cells #[.map (some q)] 50)
               have E2 := (L2.below hb1 L2.lt).alloc (.cells #[.map (some q)] 50)
               have E3 := (L3.below hb1 L3.lt).alloc (.cells #[.map (some q)] 50)
               have E4 := (L4.below hb1 L4.lt).alloc (.cells #[.map (some q)] 50)
               have E5 := (L5.below hb1 L5.lt).alloc (.cells #[.map (some q)] 50)
               have E6 := Lies.made w1 50 #[.map (some q)]
               have k0 := E3.cell 0
               have k1 := E3.cell 1
               have k2 := E3.cell 2
               have k3 := E3.cell 3
               simp only [List.getElem?_cons_zero, List.getElem?_cons_succ] at k0 k1 k2 k3
               have bw1 := b5'.out.trans (hb1.mono b5'.out.size)
               have bw2 := Lib.hid (bw1.alloc bw1.size (.cells #[.map (some q)] 50))
               have hNm2 := hNm.below (m_box w1 #[.map (some q)] 50)
               have hPt2 := Lib.hid (hPt.out _ bw2.out q hNm2)
               have hNm3 := Lib.hid hNm2
               have hsz1 := bw1.size
               have hsz2 : w.heap.size + 1 + 1 + 1 + 1 < w1.heap.size := (L5.below hb1 L5.lt).lt
               clear hNm hb1 hNm2)
            | (go_at_call 17
               refine hPt2.out.mono ?_
               intro e w3 h3
               obtain ⟨VA, vc, rfl, hO3, hOb3, hb3⟩ := h3.some_
               have F1 := E1.below hb3 E1.lt
               have F2 := E2.below hb3 E2.lt
               have F3 := E3.below hb3 E3.lt
               have F4 := E4.below hb3 E4.lt
               have F5 := E5.below hb3 E5.lt
               have F6 := E6.below hb3 E6.lt
               have f1 := F1.cell 0
               have f50 := F5.cell 0
               have f51 := F5.cell 1
               have f52 := F5.cell 2
               have f53 := F5.cell 3
               simp only [List.getElem?_cons_zero, List.getElem?_cons_succ] at f1 f50 f51 f52 f53
               have hNm4 := Lib.hid (hNm3.out.below hb3)
               have bw3 := Lib.hid (bw2.out.trans (hb3.mono bw2.out.size))
               have hO4 := Lib.hid hO3
               have hsz3 := hb3.size
               clear h3 hb3 hO3 hOb3)
            | (go_at_call 18
               refine (hFi.out _ bw3.out).mono ?_
               rintro e w4 ⟨rfl, hb4⟩
               have bw4 := Lib.hid (bw3.out.trans (hb4.mono bw3.out.size))
               have K1 := F1.below hb4 F1.lt
               have K2 := F2.below hb4 F2.lt
               have K3 := F3.below hb4 F3.lt
               have K4 := F4.below hb4 F4.lt
               have K5 := F5.below hb4 F5.lt
               have K6 := F6.below hb4 F6.lt
               have hNm5 := Lib.hid (hNm4.out.below hb4)
               have hO5 := Lib.hid (hO4.out.below hb4)
               have hsz4 := hb4.size
               have mb := m_box w4 #[clv w1.heap.size w4.heap.size w.heap.size (w.heap.size + 1) (w.heap.size + 1 + 1 + 1)] 55
               have bw0 := Lib.hid (bw4.out.trans (mb.mono bw4.out.size))
               have J3 := K3.below mb K3.lt
               have J5 := K5.below mb K5.lt
               have hCl : Cl (w4.alloc (.cells #[clv w1.heap.size w4.heap.size w.heap.size (w.heap.size + 1) (w.heap.size + 1 + 1 + 1)] 55)) w1.heap.size w4.heap.size w.heap.size (w.heap.size + 1) (w.heap.size + 1 + 1 + 1) q (.pointer (some ⟨tb, 0, none⟩)) ta tf := ⟨K6.below mb K6.lt, Lies.made _ _ _, K1.below mb K1.lt, K2.below mb K2.lt, K4.below mb K4.lt⟩
               have hMT := Lib.hid (mt_any _ _ _ _ _ _ q 2000 _ ta tf n Q (some ⟨tb, 0, none⟩) rfl (hNm5.out.below mb) hCl (fun w' x y hb' => hQ2.out w' x y (bw0.out.trans (hb'.mono bw0.out.size))) 64 _ x _ y _ (Below.refl _ _) ⟨hu'.out.below bw0.out, hx'.out.1, hx'.out.2, hzx'.out, hpf.out.2.2⟩ (hv'.out.below bw0.out) hy'.out)
               have hO6 := Lib.hid (hO5.out.below mb)
               rw [hmt] at hMT
               unfold clv dtv at *
               have m0 := J3.cell 0
               have m1 := J3.cell 1
               have m2 := J3.cell 2
               have m3 := J3.cell 3
               have l0 := J5.cell 0
               have l1 := J5.cell 1
               have l2 := J5.cell 2
               have l3 := J5.cell 3
               simp only [List.getElem?_cons_zero, List.getElem?_cons_succ] at m0 m1 m2 m3 l0 l1 l2 l3
               clear hb4 hCl mb)
            | (go_at_call 19
               refine hMT.out.mono ?_
               rintro e w6 ⟨rfl, hb6⟩
               have bw6 := Lib.hid (bw0.out.trans (hb6.mono bw0.out.size))
               have hW6 := Lib.hid (J5.below hb6 J5.lt)
               have hO7 := Lib.hid (hO6.out.below hb6)
               clear hb6))
          obtain ⟨W6, hWe⟩ : ∃ z, z = w6 := ⟨_, rfl⟩
          subst hWe
          have hsW := bw6.out.size
          go_loopw [51, 20] (fun v51 v20 wr => ∃ (j : Nat) (A8 : Option Addr) (c8 : Nat) (out : Bl), j ≤ vs.length ∧ v51 = .int .i64 j ∧ v20 = .slice A8 j c8 ∧ out.len = j ∧ Hid (∃ rest, MM.bnd (vs.drop j) y = some rest ∧ out.app rest = l) ∧ KOwn wr (fun g => W6.heap.size ≤ g) (.slice A8 j c8) out ∧ Below W6.heap.size W6 wr) (fun v51 _ _ => vs.length - (intOf v51).toNat)
          case atStart => exact ⟨0, none, 0, .nil, Nat.zero_le _, rfl, rfl, rfl, Lib.hid ⟨l, by simpa using hl1'.out, rfl⟩, KOwn.nil _ _, Below.refl _ _⟩
          case round =>
            obtain ⟨j, A8, c8, out, hj, rfl, rfl, hol, hre, hK, hbr⟩ := hrel
            by_cases hlt : j < vs.length
            · obtain ⟨xv, hxv⟩ : ∃ xv, vs[j]? = some xv := ⟨_, List.getElem?_eq_getElem hlt⟩
              obtain ⟨rest, hr1, hr2⟩ := hre.out
              obtain ⟨b, r', hb1, hb2', hb3⟩ := bnd_step hxv hr1
              have hnew := Lib.hid (show MM.bnd (vs.drop (j + 1)) y = some r' ∧ (out.snoc b).app r' = l from ⟨hb2', by rw [← hr2, hb3, Bl.snoc, Bl.app_app]; rfl⟩)
              obtain ⟨gi, ui, rfl, hgi, -, e0, e1, e2, hF⟩ := (hO7.out.below hbr).at_ hxv
              have hF' := Lib.hid hF
              obtain ⟨kf, lf, rfl, ef, hFc⟩ := hF
              have mbx := m_box wr #[.string ⟨xv.nm.toArray⟩, .int .i64 (xv.dp : Int), .func (.func kf) #[] lf] 60
              have Y5 := (hW6.out.below hbr hW6.out.lt).below mbx (hW6.out.below hbr hW6.out.lt).lt
              have y0 := Y5.cell 0
              have y1 := Y5.cell 1
              have y2 := Y5.cell 2
              have y3 := Y5.cell 3
              simp only [List.getElem?_cons_zero, List.getElem?_cons_succ] at y0 y1 y2 y3
              have bwr := Lib.hid (bw6.out.trans ((hbr.trans (mbx.mono hbr.size)).mono bw6.out.size))
              have hC := Lib.hid (hFc _ y _ b (Kp.of_below mbx) (hv'.out.below bwr.out) hzy'.out hb1)
              unfold dtv FindN at hC
              have hol' := Lib.hid hol
              have hK' := Lib.hid (hK.below mbx)
              have hKl := Lib.hid hK.lt
              have hsr := hbr.size
              clear hxv hr1 hr2 hb1 hb2' hb3 hFc hol hK
              go_wp2_with (first
                | (go_at_fn kf
                   refine hC.out.mono ?_
                   rintro e w7 ⟨iv, kv, rfl, hbm, hb7⟩
                   obtain ⟨I3, i3, rfl⟩ := hbm.d.in_.read
                   obtain ⟨K3', k3', rfl⟩ := hbm.k.read
                   unfold bmv
                   have hbm' := Lib.hid hbm
                   have hb7' := Lib.hid hb7
                   have hs7 := hb7.size
                   clear hbm hb7)
                | (at_builtin
                   obtain ⟨cs, r1, r2, r3⟩ := kown_push hol'.out (hK'.out.below hb7'.out) hbm'.out (fun g _ hg => by simp at hg; exact ⟨by omega, fun hh => by have := (hKl.out _ hh).2; omega⟩) (by simp at hs7; omega)
                   unfold bcells at r1 r2 r3
                   have r3' := Lib.hid r3
                   clear r3
                   refine wpList_append_row (v := .slice A8 j c8) (x := .slice (some ⟨w7.heap.size, 0, none⟩) 1 1) (.agg #[.string ⟨#[]⟩, .int .i64 0, .int .i64 0, .int .i64 0, .string ⟨#[]⟩, .slice none 0 0, .slice none 0 0]) 104 Tryz.infoBound rfl (by decide) rfl _ _ 29 rfl Tryz.underlying29 rfl rfl r1 (own_one (e := 38) (sz := 7) (B := 0) w7 #[.string ⟨b.nm.toArray⟩, .int .i64 b.dp, .int .i64 b.d.k, .int .i64 b.d.n, .string ⟨b.d.s.toArray⟩, .slice I3 b.d.is.len i3, .slice K3' b.ks.len k3'] rfl (Nat.zero_le _)) r2 (by omega) (by omega) (by simp) ?_
                   intro v9 w9 hown9 hg9 hat9
                   have hR9 := Lib.hid (r3'.out v9 w9 hown9 hg9 hat9)
                   have T1 := Turns.appendedS hg9
                   obtain ⟨A9, c9, rfl⟩ : ∃ A9 c9, v9 = .slice A9 (j + 1) c9 := by obtain ⟨A9, c9, e, _⟩ := own_read hown9; exact ⟨A9, c9, e⟩
                   have hb9 := Lib.hid (show Below W6.heap.size W6 w9 from (((Turns.of_below (hbr.trans ((mbx.trans (hb7'.out.mono mbx.size)).mono hbr.size)) (fun _ => False)).alloc _).then T1 (fun k hk hh => by have := (hKl.out _ hh).1; omega)).below (Nat.le_refl _) (fun _ h => h.elim))
                   clear hown9 hg9 hat9 T1 r1 r2 r3'))
              go_roundw
              case rel => exact ⟨j + 1, A9, c9, out.snoc b, by omega, by go_num, rfl, by rw [Bl.len_snoc]; have := hol'.out; omega, Lib.hid ⟨r', hnew.out⟩, hR9.out, hb9.out⟩
              case measure => simp [intOf]; omega
            · obtain rfl : j = vs.length := by omega
              obtain ⟨rest, hr1, hr2⟩ := hre.out
              rw [List.drop_length] at hr1
              simp only [MM.bnd, Option.some.injEq] at hr1
              rw [← hr1, Bl.app_nil] at hr2
              subst hr2
              have hK' := Lib.hid hK.bnd
              have hol' := Lib.hid hol
              clear hK hr1 hre hol
              go_wp2_with fail
              go_ret2
              have e : Value.slice A8 vs.length c8 = .slice A8 out.len c8 := by rw [hol'.out]
              refine ⟨bw6.out.trans (hbr.mono bw6.out.size), .inr ⟨out, A8, c8, rfl, by rw [hol'.out]; rfl, ?_⟩⟩
              rw [← e]
              exact hK'.out.mono (fun g _ hs => Nat.le_trans hsW hs)
end Go.Proofs.YtbomodendobnkaaGreat
