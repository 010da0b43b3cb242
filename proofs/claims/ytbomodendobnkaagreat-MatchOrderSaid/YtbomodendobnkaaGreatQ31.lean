/- Package match: namesOf, pattern. -/
import Derived.Test.YtbomodendobnkaaGreatQ30
namespace Go.Proofs.YtbomodendobnkaaGreat
open Go.ChangeShapes Go.WideShapes Go.ChangeAt Go.RowKit Go.Deep
open MM (Bl Bm Var)

set_option maxRecDepth 100000 in
theorem readParts_any (x : RM.Dm) (w : World) (v : Value) (h : In w v x.is) : Calls Tryz.prog 31 #[dtv x v] w (SzN (SM.sz x.is + 1) w) := by
  obtain ⟨A, c, rfl⟩ := h.read
  have hb1 := m_box w #[.int .i64 x.k, .int .i64 x.n, .string ⟨x.s.toArray⟩, .slice A x.is.len c] 24
  have hC := Lib.hid (cnt_any x _ _ 0 (h.below hb1) (by omega) (by omega))
  unfold dtv at hC ⊢
  obtain ⟨N, hN⟩ : ∃ N, x.is.len = N := ⟨_, rfl⟩
  rw [hN] at hC hb1 ⊢
  clear h hN
  go_enter Tryz.func31, Tryz.ntmps31
  go_wp2_with (go_at_call 48; refine hC.out.mono ?_; rintro e w5 ⟨y, hy, rfl, hb5⟩)
  go_ret
  exact ⟨_, rfl, rfl, hb1.trans (hb5.mono hb1.size)⟩
set_option maxRecDepth 100000 in
theorem fits_any (x : RM.Dm) (w : World) (v : Value) (h : In w v x.is) : Calls Tryz.prog 18 #[dtv x v] w fun e w' => e = .returned (.bool (MM.fits x)) ∧ Went w w' := by
  obtain ⟨A, c, rfl⟩ := h.read
  have hb1 := m_box w #[.int .i64 x.k, .int .i64 x.n, .string ⟨x.s.toArray⟩, .slice A x.is.len c] 24
  have hL1 := Lies.made w 24 #[.int .i64 x.k, .int .i64 x.n, .string ⟨x.s.toArray⟩, .slice A x.is.len c]
  have hC := Lib.hid (readParts_any x _ _ (h.below hb1))
  have hW := Lib.hid (fun (w' : World) (hb : Below w.heap.size w w') => within_any x w' _ 64 (h.below hb) (by omega))
  unfold dtv at hC hW ⊢
  unfold MM.fits
  obtain ⟨D, hD⟩ : ∃ D, decide (SM.hi x.is + 1 ≤ 64) = D := ⟨_, rfl⟩
  obtain ⟨Z, hZ⟩ : ∃ Z, SM.sz x.is + 1 = Z := ⟨_, rfl⟩
  rw [hD] at hW ⊢
  rw [hZ]
  unfold SzN at hC
  have hZ2 : (SM.sz x.is : Int) + 1 = (Z : Int) := by omega
  rw [hZ2] at hC
  rw [show ((64 : Nat) : Int) = 64 from rfl] at hW
  clear h hD hZ hZ2
  by_cases hz : Z ≤ 4000
  · go_enter Tryz.func18, Tryz.ntmps18
    go_wp2_with (first
      | (go_at_call 31
         refine hC.out.mono ?_
         rintro e w5 ⟨y, hy, rfl, hb5⟩
         have hyz : y ≤ 4000 := by omega
         have M5 := hL1.below hb5 hL1.lt
         have k0 := M5.cell 0
         have k1 := M5.cell 1
         have k2 := M5.cell 2
         have k3 := M5.cell 3
         simp only [List.getElem?_cons_zero, List.getElem?_cons_succ] at k0 k1 k2 k3
         have hbw := Lib.hid (hb1.trans (hb5.mono hb1.size))
         clear hb5 hy)
      | (go_at_call 32
         refine (hW.out _ hbw.out).mono ?_
         rintro e w6 ⟨rfl, hb6⟩))
    go_ret
    exact ⟨by rw [decide_eq_true hz]; simp, hbw.out.trans (hb6.mono hbw.out.size)⟩
  · go_enter Tryz.func18, Tryz.ntmps18
    go_wp2_with (
      go_at_call 31
      refine hC.out.mono ?_
      rintro e w5 ⟨y, hy, rfl, hb5⟩
      have hyz : ¬ y ≤ 4000 := by omega
      clear hy)
    go_ret
    exact ⟨by first | rfl | (rw [decide_eq_false hz]; simp), hb1.trans (hb5.mono hb1.size)⟩
/-! ### names are short -/
theorem vars_nm (n : MM.NM) : ∀ (f : Nat) (p : RM.Dm) (vs : List Var), p.s.length ≤ maxLen → BdS p.is → MM.vars n f p = some vs → ∀ v ∈ vs, v.nm.length ≤ maxLen
  | 0, _, _, _, _, hv, _, _ => by simp [MM.vars] at hv
  | f + 1, p, vs, hs, hb, hv, v, hm => by
    unfold MM.vars at hv
    split at hv
    · cases hv
    split at hv
    · simp only [Option.some.injEq] at hv
      subst hv
      simp only [List.mem_singleton] at hm
      subst hm
      exact hs
    split at hv
    · obtain ⟨q, l, -, hq, hr, hl⟩ := MM.parts_mem hv v hm
      obtain ⟨j, x, l2, u, hx, hl2, hu, rfl⟩ := MM.rowVars_mem hr v hl
      obtain ⟨k, hk⟩ := part_in n p hx
      have := vars_nm n f x l2 (hb.at_ hk).2.2.1 (hb.at_ hk).2.2.2 hl2 u hu
      unfold MM.kAt
      split <;> exact this
    · simp only [Option.some.injEq] at hv
      subst hv
      simp at hm
set_option maxRecDepth 100000 in
set_option maxHeartbeats 4000000 in
theorem apart_any (w : World) (S : Nat → Prop) (A : Option Addr) (c : Nat) (vs : List Var) (h : VOwn w S (.slice A vs.length c) vs) (hl : vs.length ≤ 5000) (hn : ∀ v ∈ vs, v.nm.length ≤ maxLen) :
    Calls Tryz.prog 30 #[.slice A vs.length c] w fun e w' => e = .returned (.bool (MM.apart vs)) ∧ Went w w' := by
  obtain ⟨N, hN⟩ : ∃ N, vs.length = N := ⟨_, rfl⟩
  have hN' := Lib.hid hN
  rw [hN] at h hl ⊢
  obtain ⟨R, hR⟩ : ∃ R, MM.apart vs = R := ⟨_, rfl⟩
  rw [hR]
  have hR' := Lib.hid hR
  have hn' := Lib.hid hn
  clear hN hR hn
  have hmm := @run_makeMap Tryz.prog
  go_enter Tryz.func30, Tryz.ntmps30
  go_wp2_with fail
  go_loopw [9] (fun i wr => ∃ (j : Nat), j ≤ N ∧ i = .int .i64 j ∧ Cm wr w.heap.size ((vs.take j).map Var.nm) ∧ Below w.heap.size w wr) (fun i _ => N - (intOf i).toNat)
  case atStart => exact ⟨0, Nat.zero_le _, rfl, by simpa using Cm.made w, (Below.refl _ w).alloc (Nat.le_refl _) _⟩
  case round =>
    obtain ⟨j, hj, rfl, hC, hb⟩ := hrel
    have hlen : ((vs.take j).map Var.nm).length = j := by rw [List.length_map, List.length_take, hN'.out]; omega
    by_cases hlt : j < N
    · obtain ⟨x, hx⟩ : ∃ x, vs[j]? = some x := ⟨_, List.getElem?_eq_getElem (by rw [hN'.out]; exact hlt)⟩
      obtain ⟨g, u, rfl, hg, -, e0, e1, e2, hF⟩ := (h.below hb).at_ hx
      obtain ⟨kf, lf, rfl, -⟩ := hF
      have hxm : x.nm.length ≤ maxLen := hn'.out x (List.mem_of_getElem? hx)
      have hbx := m_box wr #[.string ⟨x.nm.toArray⟩, .int .i64 (x.dp : Int), .func (.func kf) #[] lf] 60
      have hCx := hC.below hbx
      have hk := hCx.look (b := ⟨x.nm.toArray⟩) (by simpa [ByteArray.size] using hxm)
      obtain ⟨w9, hp, hC9, hT9⟩ := hCx.put (by omega) (b := ⟨x.nm.toArray⟩) (by simpa [ByteArray.size] using hxm)
      have ht : (vs.take j).map Var.nm ++ [x.nm] = (vs.take (j + 1)).map Var.nm := by
        rw [List.take_add_one, hx]
        simp
      simp only at hk hp hC9
      rw [ht] at hC9
      have hb9 : Below w.heap.size w w9 := ((Turns.of_below (hb.trans (hbx.mono hb.size)) (fun _ => False)).then hT9 (fun k hk hh => by omega)).below (Nat.le_refl _) (fun _ h => h.elim)
      have hcnt : (List.count x.nm ((vs.take j).map Var.nm) : Int) + 1 ≤ 10000 ∧ 0 ≤ (List.count x.nm ((vs.take j).map Var.nm) : Int) := by
        have := List.count_le_length (l := (vs.take j).map Var.nm) (a := x.nm)
        omega
      generalize (List.count x.nm ((vs.take j).map Var.nm) : Int) = cn at hk hp hcnt
      clear hx hCx hC hT9 ht
      go_wp2_with fail
      go_roundw
      case rel => exact ⟨j + 1, by omega, by go_num, hC9, hb9⟩
      case measure => simp [intOf]; omega
    · obtain rfl : j = N := by omega
      obtain ⟨M, hM, hMe⟩ := hC.lens 3
      have hMl := hM wr 3 rfl rfl
      rw [hlen] at hMe
      have htk : (vs.take j).map Var.nm = vs.map Var.nm := by rw [List.take_of_length_le (by rw [hN'.out]; exact Nat.le_refl _)]
      rw [htk] at hMe
      have hMe' := Lib.hid hMe
      clear hMe hM
      go_wp2_with fail
      go_ret
      refine ⟨?_, hb⟩
      rw [← hR'.out]
      unfold MM.apart
      congr 2
      by_cases hd : (vs.map Var.nm).Nodup
      · rw [decide_eq_true hd]
        simpa using hMe'.out.2 hd
      · rw [decide_eq_false hd]
        have : ¬ ((M : Nat) : Int) = (j : Nat) := fun h => hd (hMe'.out.1 h)
        simpa using this
/-! ### a row of strings that can be read -/
def Sn (w : World) (v : Value) (l : List (List UInt8)) : Prop := ∃ A c, v = .slice A l.length c ∧ l.length ≤ 9223372036854775807 ∧ ∃ b o, (0 < l.length → A = some ⟨b, o, none⟩ ∧ b < w.heap.size) ∧ ∀ (j : Nat) (x : List UInt8), l[j]? = some x → w.cell? ⟨b, o + j, none⟩ = some (.string ⟨x.toArray⟩)
theorem Sn.below {w w' : World} {v : Value} {l : List (List UInt8)} (h : Sn w v l) (k : Below w.heap.size w w') : Sn w' v l := by
  obtain ⟨A, c, e, hl, b, o, h1, h2⟩ := h
  refine ⟨A, c, e, hl, b, o, fun h => ⟨(h1 h).1, Nat.lt_of_lt_of_le (h1 h).2 k.size⟩, fun j x hx => ?_⟩
  have hj := (List.getElem?_eq_some_iff.1 hx).1
  exact (k.cell (p := ⟨b, o + j, none⟩) (h1 (by omega)).2).trans (h2 j x hx)
theorem Sn.read {w : World} {v : Value} {l : List (List UInt8)} (h : Sn w v l) : ∃ A c, v = .slice A l.length c := by
  obtain ⟨A, c, e, _⟩ := h; exact ⟨A, c, e⟩
theorem Sn.nil (w : World) : Sn w (.slice none 0 0) [] := ⟨none, 0, rfl, by simp, 0, 0, fun h => absurd h (by simp), fun j x h => by simp at h⟩
theorem Sn.cell {w : World} {A : Option Addr} {n c : Nat} {l : List (List UInt8)} (h : Sn w (.slice A n c) l) {j : Nat} {x : List UInt8} (hx : l[j]? = some x) : ∃ b o, A = some ⟨b, o, none⟩ ∧ b < w.heap.size ∧ w.cell? ⟨b, o + j, none⟩ = some (.string ⟨x.toArray⟩) := by
  obtain ⟨A', c', e, hl, b, o, h1, h2⟩ := h
  injection e with e1 e2 e3
  subst e1
  have hj := (List.getElem?_eq_some_iff.1 hx).1
  obtain ⟨hA, hb⟩ := h1 (by omega)
  exact ⟨b, o, hA, hb, h2 j x hx⟩
set_option maxRecDepth 100000 in
set_option maxHeartbeats 4000000 in
theorem namesOf_any (w : World) (v : Value) (l : List (List UInt8)) (dots : List UInt8) (h : Sn w v l) (hl : l.length ≤ 1000) (hs : ∀ x ∈ l, x.length ≤ maxLen) (hd : dots.length ≤ maxLen) :
    Calls Tryz.prog 16 #[v, .string ⟨dots.toArray⟩] w fun e w' => ∃ q, e = .returned (.map (some q)) ∧ w.heap.size ≤ q ∧ Nm w' q 2000 (MM.nms l dots) ∧ Went w w' := by
  obtain ⟨A, c, rfl⟩ := h.read
  obtain ⟨N, hN⟩ : ∃ N, l.length = N := ⟨_, rfl⟩
  have hN' := Lib.hid hN
  have hs' := Lib.hid hs
  rw [hN] at h hl ⊢
  have h0 : Nm (w.alloc (.map #[] 0)) w.heap.size 0 (fun _ => 0) := Nm.made w
  obtain ⟨w1, r1, n1, t1⟩ := h0.put (by omega) (b := ⟨#[95]⟩) (by decide) 1
  obtain ⟨w2, r2, n2, t2⟩ := n1.put (by omega) (b := ⟨dots.toArray⟩) (by simpa [ByteArray.size] using hd) 2
  have hb2 : Below w.heap.size w w2 := (((Turns.of_below ((Below.refl _ w).alloc (Nat.le_refl _) (.map #[] 0)) (fun _ => False)).then t1 (fun k hk hh => by omega)).then t2 (fun k hk hh => by omega)).below (Nat.le_refl _) (fun _ h => h.elim)
  have n2' : Nm w2 w.heap.size 2 (MM.base dots) := n2
  have hmm := @run_makeMap Tryz.prog
  clear hN hs n1 n2 t1 t2 h0
  go_enter Tryz.func16, Tryz.ntmps16
  go_wp2_with fail
  go_loopw [14] (fun i wr => ∃ (j : Nat), j ≤ N ∧ i = .int .i64 j ∧ Nm wr w.heap.size (2 + j) (MM.nms (l.take j) dots) ∧ Below w.heap.size w wr) (fun i _ => N - (intOf i).toNat)
  case atStart => exact ⟨0, Nat.zero_le _, rfl, by simpa [MM.nms] using n2', hb2⟩
  case round =>
    obtain ⟨j, hj, rfl, hM, hb⟩ := hrel
    clear n2' hb2
    by_cases hlt : j < N
    · obtain ⟨x, hx⟩ : ∃ x, l[j]? = some x := ⟨_, List.getElem?_eq_getElem (by rw [hN'.out]; exact hlt)⟩
      obtain ⟨b, o, rfl, hbl, e0⟩ := (h.below hb).cell hx
      have hxm : x.length ≤ maxLen := hs'.out x (List.mem_of_getElem? hx)
      obtain ⟨w9, hp, hM9, hT9⟩ := hM.put (by omega) (b := ⟨x.toArray⟩) (by simpa [ByteArray.size] using hxm) 3
      have ht : MM.put (MM.nms (l.take j) dots) x 3 = MM.nms (l.take (j + 1)) dots := by
        rw [List.take_add_one, hx]
        simp [MM.nms, List.foldl_append]
      simp only at hp hM9
      rw [ht] at hM9
      have hb9 : Below w.heap.size w w9 := ((Turns.of_below hb (fun _ => False)).then hT9 (fun k hk hh => by omega)).below (Nat.le_refl _) (fun _ h => h.elim)
      clear hx hM hT9 ht
      go_wp2_with fail
      go_roundw
      case rel => exact ⟨j + 1, by omega, by go_num, by rw [show 2 + (j + 1) = 2 + j + 1 by omega]; exact hM9, hb9⟩
      case measure => simp [intOf]; omega
    · obtain rfl : j = N := by omega
      have htk : l.take j = l := List.take_of_length_le (by rw [hN'.out]; exact Nat.le_refl _)
      rw [htk] at hM
      have hM' := Lib.hid hM
      clear hM
      go_wp2_with fail
      go_ret
      obtain ⟨cc, S, q1, q2, q3⟩ := hM'.out
      exact ⟨_, rfl, Nat.le_refl _, ⟨cc, S, q1, by omega, q3⟩, hb⟩
/-! ### pattern -/
set_option maxRecDepth 100000 in
set_option maxHeartbeats 4000000 in
theorem pattern_any (w0 : World) (q m : Nat) (n : MM.NM) (hN : Nm w0 q m n) (w : World) (x : RM.Dm) (v : Value) (hb : Below w0.heap.size w0 w) (hv : Cn w0 v x.is) (hs : x.s.length ≤ maxLen) (hbd : BdS x.is) (hz : SM.sz x.is ≤ 5000) :
    Calls Tryz.prog 17 #[.map (some q), dtv x v] w (VarN w0.heap.size w (MM.pat n x)) := by
  obtain ⟨A, c, rfl⟩ := hv.read
  have hb1 := m_box w #[.int .i64 x.k, .int .i64 x.n, .string ⟨x.s.toArray⟩, .slice A x.is.len c] 24
  have hL1 := Lies.made w 24 #[.int .i64 x.k, .int .i64 x.n, .string ⟨x.s.toArray⟩, .slice A x.is.len c]
  have hb0 := Lib.hid (hb.trans (hb1.mono hb.size))
  have hF := Lib.hid (fits_any x _ _ ((hv.below hb).below hb1).in_)
  have hV := Lib.hid (fun (w' : World) (hb' : Below w0.heap.size w0 w') (hd : SM.hi x.is + 1 ≤ 64) => vars_any w0 q m n hN 64 (by omega) w' x _ hb' ⟨hv, hs, hbd, hz, hd⟩)
  have hnm := Lib.hid (fun vs h => vars_nm n 64 x vs hs hbd h)
  have hvl := Lib.hid (fun vs h => MM.vars_len n 64 x vs h)
  obtain ⟨R, hR⟩ : ∃ R, MM.pat n x = R := ⟨_, rfl⟩
  rw [hR]
  unfold MM.pat at hR
  have hfe : MM.fits x = true → SM.sz x.is + 1 ≤ 4000 ∧ SM.hi x.is + 1 ≤ 64 := fun h => by
    unfold MM.fits at h
    simp only [Bool.and_eq_true, decide_eq_true_eq] at h
    exact h
  unfold dtv at *
  obtain ⟨FB, hFB⟩ : ∃ FB, MM.fits x = FB := ⟨_, rfl⟩
  rw [hFB] at hF hR hfe
  obtain ⟨VB, hVB⟩ : ∃ VB, MM.vars n 64 x = VB := ⟨_, rfl⟩
  rw [hVB] at hV hR hvl hnm
  clear hv hs hbd hz hN hFB hVB
  cases FB with
  | false =>
    have hRn : R = none := by rw [← hR]; rfl
    subst hRn
    clear hR hfe
    go_enter Tryz.func17, Tryz.ntmps17
    go_wp2_with (go_at_call 18; refine hF.out.mono ?_; rintro e w3 ⟨rfl, hb3⟩)
    go_ret2
    exact ⟨hb1.trans (hb3.mono hb1.size), .inl ⟨rfl, rfl⟩⟩
  | true =>
    obtain ⟨hz4, hd⟩ := hfe rfl
    rw [if_pos rfl] at hR
    have hV2 := Lib.hid (fun (w' : World) (hb' : Below w0.heap.size w0 w') => hV.out w' hb' hd)
    clear hfe hd
    cases VB with
    | none =>
      have hRn : R = none := by rw [← hR]
      subst hRn
      clear hR
      go_enter Tryz.func17, Tryz.ntmps17
      go_wp2_with (first
        | (go_at_call 18
           refine hF.out.mono ?_
           rintro e w3 ⟨rfl, hb3⟩
           have hM3 := hL1.below hb3 hL1.lt
           have k0 := hM3.cell 0
           have k1 := hM3.cell 1
           have k2 := hM3.cell 2
           have k3 := hM3.cell 3
           simp only [List.getElem?_cons_zero, List.getElem?_cons_succ] at k0 k1 k2 k3
           have hbw := Lib.hid (hb1.trans (hb3.mono hb1.size))
           clear hb3)
        | (go_at_call 29
           refine (hV2.out _ (hb.trans (hbw.out.mono hb.size))).mono ?_
           intro e w5 h5
           obtain ⟨rfl, hb5⟩ := h5.none_
           clear h5))
      go_ret2
      exact ⟨hbw.out.trans (hb5.mono hbw.out.size), .inl ⟨rfl, rfl⟩⟩
    | some vs =>
      have hvl2 := hvl.out vs rfl
      have hnm2 := Lib.hid (hnm.out vs rfl)
      have hvl3 : vs.length ≤ 5000 := by omega
      have hA := Lib.hid (fun (w' : World) S A c (h : VOwn w' S (.slice A vs.length c) vs) => apart_any w' S A c vs h hvl3 hnm2.out)
      obtain ⟨AB, hAB⟩ : ∃ AB, MM.apart vs = AB := ⟨_, rfl⟩
      have hR2 : R = if AB then some vs else none := by rw [← hR, ← hAB]
      rw [hAB] at hA
      clear hR hAB hvl3 hvl2
      cases AB with
      | false =>
        have hRn : R = none := by rw [hR2]; rfl
        subst hRn
        clear hR2
        go_enter Tryz.func17, Tryz.ntmps17
        go_wp2_with (first
          | (go_at_call 18
             refine hF.out.mono ?_
             rintro e w3 ⟨rfl, hb3⟩
             have hM3 := hL1.below hb3 hL1.lt
             have k0 := hM3.cell 0
             have k1 := hM3.cell 1
             have k2 := hM3.cell 2
             have k3 := hM3.cell 3
             simp only [List.getElem?_cons_zero, List.getElem?_cons_succ] at k0 k1 k2 k3
             have hbw := Lib.hid (hb1.trans (hb3.mono hb1.size))
             clear hb3)
          | (go_at_call 29
             refine (hV2.out _ (hb.trans (hbw.out.mono hb.size))).mono ?_
             intro e w5 h5
             obtain ⟨VA, vc, rfl, hO5, hOb5, hb5⟩ := h5.some_
             have hA5 := Lib.hid (hA.out _ _ _ _ hO5)
             have hb5' := Lib.hid hb5
             clear h5 hO5 hOb5 hb5)
          | (go_at_call 30
             refine hA5.out.mono ?_
             rintro e w6 ⟨rfl, hb6⟩))
        go_ret2
        exact ⟨hbw.out.trans ((hb5'.out.mono hbw.out.size).trans (hb6.mono (Nat.le_trans hbw.out.size hb5'.out.size))), .inl ⟨rfl, rfl⟩⟩
      | true =>
        have hRn : R = some vs := by rw [hR2]; rfl
        subst hRn
        clear hR2
        go_enter Tryz.func17, Tryz.ntmps17
        go_wp2_with (first
          | (go_at_call 18
             refine hF.out.mono ?_
             rintro e w3 ⟨rfl, hb3⟩
             have hM3 := hL1.below hb3 hL1.lt
             have k0 := hM3.cell 0
             have k1 := hM3.cell 1
             have k2 := hM3.cell 2
             have k3 := hM3.cell 3
             simp only [List.getElem?_cons_zero, List.getElem?_cons_succ] at k0 k1 k2 k3
             have hbw := Lib.hid (hb1.trans (hb3.mono hb1.size))
             clear hb3)
          | (go_at_call 29
             refine (hV2.out _ (hb.trans (hbw.out.mono hb.size))).mono ?_
             intro e w5 h5
             obtain ⟨VA, vc, rfl, hO5, hOb5, hb5⟩ := h5.some_
             have hA5 := Lib.hid (hA.out _ _ _ _ hO5)
             have hO6 := Lib.hid hO5
             have hOb6 := Lib.hid hOb5
             have hb5' := Lib.hid hb5
             clear h5 hO5 hOb5 hb5)
          | (go_at_call 30
             refine hA5.out.mono ?_
             rintro e w6 ⟨rfl, hb6⟩))
        go_ret2
        have hs3 := hbw.out.size
        have hs6 := hb6.size
        exact ⟨hbw.out.trans ((hb5'.out.mono hbw.out.size).trans (hb6.mono (Nat.le_trans hbw.out.size hb5'.out.size))), .inr ⟨vs, VA, vc, rfl, rfl, (hO6.out.below hb6).mono (fun g hg hs => hs.imp id (fun h => ⟨Nat.le_trans hs3 h.1, hg⟩)), fun g hg => Nat.le_trans hs3 (hOb6.out g hg)⟩⟩
end Go.Proofs.YtbomodendobnkaaGreat

/- Package match: does a datum match? The closure, the library's EqualFunc, rows. -/
namespace Go.Proofs.YtbomodendobnkaaGreat
open Go.ChangeShapes Go.WideShapes Go.ChangeAt Go.RowKit Go.Deep
open MM (Bl Bm Var)

/-- the closure's own value -/
def clv (b16 b19 b7 b8 b10 : Nat) : Value := .func (.func 19) #[] #[.pointer (some ⟨b16, 0, none⟩), .pointer (some ⟨b19, 0, none⟩), .pointer (some ⟨b7, 0, none⟩), .pointer (some ⟨b8, 0, none⟩), .pointer (some ⟨b10, 0, none⟩)]
structure Cl (w : World) (b16 b19 b7 b8 b10 q : Nat) (tv : Value) (ta tf : Int) : Prop where
  n : Lies w b16 50 [.map (some q)]
  f : Lies w b19 55 [clv b16 b19 b7 b8 b10]
  t : Lies w b7 32 [tv]
  a : Lies w b8 3 [.int .i64 ta]
  b : Lies w b10 3 [.int .i64 tf]
theorem Cl.below {w w' : World} {b16 b19 b7 b8 b10 q : Nat} {tv : Value} {ta tf : Int} (h : Cl w b16 b19 b7 b8 b10 q tv ta tf) (k : Below w.heap.size w w') : Cl w' b16 b19 b7 b8 b10 q tv ta tf :=
  ⟨h.n.below k h.n.lt, h.f.below k h.f.lt, h.t.below k h.t.lt, h.a.below k h.a.lt, h.b.below k h.b.lt⟩
/-- a datum's texts are no longer than texts may be -/
def Db (y : RM.Dm) : Prop := y.s.length ≤ maxLen ∧ BdS y.is
theorem Db.at_ {d : RM.Dl} (h : BdS d) {i : Nat} {y : RM.Dm} (hy : d.at_ i = some y) : Db y := ⟨(h.at_ hy).2.2.1, (h.at_ hy).2.2.2⟩
def BoolN (r : Bool) (w : World) (e : Ending) (w' : World) : Prop := e = .returned (.bool r) ∧ Went w w'
theorem at_tk' {l : RM.Dl} {a i : Nat} {y : RM.Dm} (h : (SM.tk l a).at_ i = some y) : ∃ i', l.at_ i' = some y := by
  induction l generalizing a i with
  | nil => cases a <;> simp [SM.tk, RM.Dl.at_] at h
  | cons k m s is r _ ih =>
    cases a with
    | zero => simp [SM.tk, RM.Dl.at_] at h
    | succ a =>
      cases i with
      | zero => exact ⟨0, h⟩
      | succ i =>
        obtain ⟨i', h'⟩ := ih (show (SM.tk r a).at_ i = some y from h)
        exact ⟨i' + 1, h'⟩
theorem lay_db (r : MM.Row) (k : Int) (part : Nat) (d : RM.Dm) (hd : Db d) (j : Nat) (y : RM.Dm) (h : ((MM.lay r k d).1.part part).at_ j = some y) : Db y := by
  have it : ∀ {i : Nat}, (MM.items d).at_ i = some y → Db y := fun h => by
    obtain ⟨i', h'⟩ := at_tk' h
    exact Db.at_ hd.2 h'
  have be : ∀ (e : Nat), y = MM.behind d e → Db y := fun e hy => by
    subst hy
    unfold MM.behind
    split
    · rename_i hh
      obtain ⟨z, hz⟩ := d.is.at_some e (by omega)
      rw [hz]
      exact Db.at_ hd.2 hz
    · exact ⟨by unfold maxLen; simp, hd.2.dr e⟩
  have two : ∀ {a b i : Nat}, (SM.tk (SM.dr (MM.items d) a) b).at_ i = some y → Db y := fun {a b i} h => by
    obtain ⟨i1, h1⟩ := at_tk' h
    rw [MM.at_dr] at h1
    exact it h1
  have one : ∀ {a i : Nat}, (SM.tk (MM.items d) a).at_ i = some y → Db y := fun h => by
    obtain ⟨i1, h1⟩ := at_tk' h
    exact it h1
  unfold MM.lay at h
  split at h
  · match part, h with
    | 0, h => simp [MM.Row.part, RM.Dl.at_] at h
    | 1, h => simp [MM.Row.part, RM.Dl.at_] at h
    | 2, h => simp [MM.Row.part, RM.Dl.at_] at h
    | p + 3, h => simp [MM.Row.part, RM.Dl.at_] at h
  split at h
  · match part, h with
    | 0, h => exact one h
    | 1, h => exact two h
    | 2, h => exact two h
    | p + 3, h =>
      have h2 : (RM.Dl.one (MM.behind d (MM.mid r d + r.b.len))).at_ j = some y := h
      cases j with
      | zero =>
        simp only [RM.Dl.one, RM.Dl.at_, Option.some.injEq] at h2
        exact be _ h2.symm
      | succ j => simp [RM.Dl.one, RM.Dl.at_] at h2
  · match part, h with
    | 0, h => exact one h
    | 1, h => exact two h
    | 2, h => exact two h
    | p + 3, h => simp [MM.Row.part, RM.Dl.at_] at h
theorem allp_dr {F : RM.Dm → Bool} {l : RM.Dl} {i : Nat} {x : RM.Dm} (h : l.at_ i = some x) : MM.allp F (SM.dr l i) = (F x && MM.allp F (SM.dr l (i + 1))) := by rw [SM.dr_at l i x h]; rfl
theorem all2_dr {F : RM.Dm → RM.Dm → Bool} {l e : RM.Dl} {i : Nat} {x y : RM.Dm} (h : l.at_ i = some x) (k : e.at_ i = some y) : MM.all2 F (SM.dr l i) (SM.dr e i) = (F x y && MM.all2 F (SM.dr l (i + 1)) (SM.dr e (i + 1))) := by
  rw [SM.dr_at l i x h, SM.dr_at e i y k]; rfl
section
variable (w0 : World) (b16 b19 b7 b8 b10 q m : Nat) (tv : Value) (ta tf : Int) (n : MM.NM) (Q : List UInt8 → List UInt8 → Bool)
def MOk (f : Nat) : Prop := ∀ (w : World) (x : RM.Dm) (u : Value) (y : RM.Dm) (v : Value), Below w0.heap.size w0 w → Pt w0 f x u → Cn w v y.is → Db y →
  Calls Tryz.prog 19 #[dtv x u, dtv y v, .pointer (some ⟨b16, 0, none⟩), .pointer (some ⟨b19, 0, none⟩), .pointer (some ⟨b7, 0, none⟩), .pointer (some ⟨b8, 0, none⟩), .pointer (some ⟨b10, 0, none⟩)] w (BoolN (MM.mt n Q f x y) w)
set_option maxRecDepth 100000 in
set_option maxHeartbeats 4000000 in
theorem eqf_any (f : Nat) (hM : MOk w0 b16 b19 b7 b8 b10 n Q f) (l1 l2 : RM.Dl) (w : World) (u v : Value) (hb : Below w0.heap.size w0 w) (h1 : Cn w0 u l1) (hp : ∀ i x a, l1.at_ i = some x → Cn w0 a x.is → Pt w0 f x a) (h2 : Cn w v l2) (hd : ∀ i y, l2.at_ i = some y → Db y) :
    Calls Tryz.prog 35 #[u, v, clv b16 b19 b7 b8 b10] w (BoolN (MM.all2 (MM.mt n Q f) l1 l2) w) := by
  obtain ⟨A1, c1, rfl⟩ := h1.read
  obtain ⟨A2, c2, rfl⟩ := h2.read
  have hl1 := h1.len
  have hl2 := h2.len
  obtain ⟨N, hN⟩ : ∃ N, l1.len = N := ⟨_, rfl⟩
  obtain ⟨M, hM2⟩ : ∃ M, l2.len = M := ⟨_, rfl⟩
  rw [hN] at h1 hl1 ⊢
  rw [hM2] at h2 hl2 ⊢
  obtain ⟨R, hR⟩ : ∃ R, MM.all2 (MM.mt n Q f) l1 l2 = R := ⟨_, rfl⟩
  rw [hR]
  have hN' := Lib.hid hN
  have hM2' := Lib.hid hM2
  have hR' := Lib.hid hR
  have hM' := Lib.hid hM
  have hp' := Lib.hid hp
  have hd' := Lib.hid hd
  unfold clv
  clear hN hM2 hM hR hp hd
  by_cases hne : N = M
  · subst hne
    go_enter Tryz.func35, Tryz.ntmps35
    go_wp2_with fail
    go_loopw [17] (fun i wr => ∃ (j : Nat), j ≤ N ∧ i = .int .i64 j ∧ Hid (R = MM.all2 (MM.mt n Q f) (SM.dr l1 j) (SM.dr l2 j)) ∧ Below w.heap.size w wr) (fun i _ => N - (intOf i).toNat)
    case atStart => exact ⟨0, Nat.zero_le _, rfl, Lib.hid (by rw [SM.dr_zero, SM.dr_zero]; exact hR'.out.symm), Below.refl _ w⟩
    case round =>
      obtain ⟨j, hj, rfl, hre, hbr⟩ := hrel
      by_cases hlt : j < N
      · obtain ⟨x, hx⟩ := l1.at_some j (by rw [hN'.out]; exact hlt)
        obtain ⟨y, hy⟩ := l2.at_some j (by rw [hM2'.out]; exact hlt)
        obtain ⟨g1, o1, B1, b1, rfl, hg1, p0, p1, p2, p3, hd1⟩ := h1.at_ hx
        obtain ⟨g2, o2, B2, b2, rfl, hg2, q0, q1, q2, q3, hd2⟩ := (h2.below hbr).at_ hy
        have hb0 : Below w0.heap.size w0 wr := hb.trans (hbr.mono hb.size)
        have hdr := all2_dr (F := MM.mt n Q f) hx hy
        have hba : Below wr.heap.size wr ((wr.alloc (.cells #[.int .i64 x.k, .int .i64 x.n, .string ⟨x.s.toArray⟩, .slice B1 x.is.len b1] 24)).alloc (.cells #[.int .i64 y.k, .int .i64 y.n, .string ⟨y.s.toArray⟩, .slice B2 y.is.len b2] 24)) := ((Below.refl _ wr).alloc (Nat.le_refl _) _).alloc (by simp) _
        have hC := Lib.hid (hM'.out _ x _ y _ (hb0.trans (hba.mono hb0.size)) (hp'.out j x _ hx hd1) (hd2.below hba) (hd'.out j y hy))
        unfold dtv at hC
        have r0 := (hb0.cell (p := ⟨g1, o1 + j * 4, none⟩) hg1).trans p0
        have r1 := (hb0.cell (p := ⟨g1, o1 + j * 4 + 1, none⟩) hg1).trans p1
        have r2 := (hb0.cell (p := ⟨g1, o1 + j * 4 + 2, none⟩) hg1).trans p2
        have r3 := (hb0.cell (p := ⟨g1, o1 + j * 4 + 3, none⟩) hg1).trans p3
        have hdr' := Lib.hid hdr
        have hb2 := Lib.hid (hbr.trans (hba.mono hbr.size))
        have ca : ∀ o, (wr.alloc (.cells #[.int .i64 x.k, .int .i64 x.n, .string ⟨x.s.toArray⟩, .slice B1 x.is.len b1] 24)).cell? ⟨g2, o, none⟩ = wr.cell? ⟨g2, o, none⟩ := fun o => ((Below.refl _ wr).alloc (Nat.le_refl _) _).cell (p := ⟨g2, o, none⟩) hg2
        rw [← ca] at q0 q1 q2 q3
        obtain ⟨r, hr⟩ : ∃ r, MM.mt n Q f x y = r := ⟨_, rfl⟩
        rw [hr] at hC hdr'
        clear hx hy hd1 hd2 hdr hba ca p0 p1 p2 p3 hr
        cases r with
        | false =>
          go_wp2_with (
            go_at_call 19
            refine hC.out.mono ?_
            rintro e w5 ⟨rfl, hb5⟩)
          go_ret
          refine ⟨?_, hb2.out.trans (hb5.mono hb2.out.size)⟩
          have : R = false := by rw [hre.out, hdr'.out]; rfl
          rw [this]; rfl
        | true =>
          go_wp2_with (
            go_at_call 19
            refine hC.out.mono ?_
            rintro e w5 ⟨rfl, hb5⟩)
          go_roundw
          case rel => exact ⟨j + 1, by omega, by go_num, Lib.hid (by rw [hre.out, hdr'.out]; rfl), hb2.out.trans (hb5.mono hb2.out.size)⟩
          case measure => simp [intOf]; omega
      · obtain rfl : j = N := by omega
        have : R = true := by
          rw [hre.out, SM.dr_end l1 j (by rw [hN'.out]; exact Nat.le_refl _), SM.dr_end l2 j (by rw [hM2'.out]; exact Nat.le_refl _)]
          rfl
        subst this
        go_wp2_with fail
        go_ret
        exact ⟨rfl, hbr⟩
  · have : R = false := by
      rw [← hR'.out]
      cases h : MM.all2 (MM.mt n Q f) l1 l2 with
      | false => rfl
      | true =>
        have := MM.all2_len h
        rw [hN'.out, hM2'.out] at this
        exact absurd this hne
    subst this
    go_enter Tryz.func35, Tryz.ntmps35
    go_wp2_with fail
    go_ret
    exact ⟨rfl, Below.refl _ w⟩
end
end Go.Proofs.YtbomodendobnkaaGreat
